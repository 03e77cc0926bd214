package bind_test

import (
	"fmt"
	"slices"
	"strings"
	"testing"

	"hasp/api"
	"hasp/bind"
)

// sample gives right descriptions: t has an index i on a, and j, unique, on c, b; w has as many indexes as a table may.
func sample() []api.Table {
	full := api.Table{Name: "w", Cols: []api.Column{{Name: "a", Type: api.Int}, {Name: "h", Type: api.Bool, Required: true}}}
	for n := range 8 {
		full.Indexes = append(full.Indexes, api.Index{Name: fmt.Sprint("w", n), Cols: []int{n % 2}})
	}
	return []api.Table{
		{Name: "t", Cols: []api.Column{{Name: "a", Type: api.Int, Required: true}, {Name: "b", Type: api.Text}, {Name: "c", Type: api.Real}, {Name: "d", Type: api.Bool}},
			Indexes: []api.Index{{Name: "i", Cols: []int{0}}, {Name: "j", Cols: []int{2, 1}, Unique: true}}},
		{Name: "u", Cols: []api.Column{{Name: "a", Type: api.Int}, {Name: "e", Type: api.Real, Required: true}}},
		{Name: "v", Cols: []api.Column{{Name: "f", Type: api.Text}}, Indexes: []api.Index{{Name: "k", Cols: []int{0}}}},
		full,
	}
}

func TestP16_1Errors(t *testing.T) {
	for _, c := range []struct {
		s    string
		code api.Errno
	}{
		{"CREATE TABLE x (a INT, b TEXT NOT NULL)", api.OK}, {"CREATE TABLE t (a INT)", api.ErrExists}, {"CREATE TABLE v (f TEXT)", api.ErrExists},
		{"CREATE TABLE systables (a INT)", api.ErrExists}, {"CREATE TABLE syscolumns (a INT)", api.ErrExists}, {"CREATE TABLE sysindexes (a INT)", api.ErrExists},
		{"CREATE TABLE i (i INT)", api.OK}, {"CREATE TABLE x (a INT, b INT, a TEXT)", api.ErrExists},
		{"DROP TABLE t", api.OK}, {"DROP TABLE w", api.OK}, {"DROP TABLE x", api.ErrTable}, {"DROP TABLE i", api.ErrTable}, {"DROP TABLE systables", api.ErrSystem}, {"DROP TABLE syscolumns", api.ErrSystem}, {"DROP TABLE sysindexes", api.ErrSystem},
		{"CREATE INDEX x ON t (a)", api.OK}, {"CREATE INDEX t ON t (d, c, b, a)", api.OK}, {"CREATE UNIQUE INDEX x ON v (f)", api.OK}, {"CREATE INDEX x ON x (a)", api.ErrTable}, {"CREATE INDEX x ON systables (name)", api.ErrSystem},
		{"CREATE INDEX i ON t (a)", api.ErrExists}, {"CREATE INDEX k ON t (a)", api.ErrExists}, {"CREATE INDEX w7 ON t (a)", api.ErrExists}, {"CREATE INDEX x ON w (a)", api.ErrMany}, {"CREATE INDEX i ON w (a)", api.ErrExists},
		{"CREATE INDEX x ON t (z)", api.ErrColumn}, {"CREATE INDEX x ON t (a, e)", api.ErrColumn}, {"CREATE INDEX x ON t (a, b, a)", api.ErrExists}, {"CREATE INDEX x ON t (a, a, z)", api.ErrExists}, {"CREATE INDEX x ON t (a, z, a)", api.ErrColumn}, {"CREATE INDEX x ON t (z, z)", api.ErrColumn}, {"CREATE INDEX x ON w (z)", api.ErrMany},
		{"DROP INDEX i", api.OK}, {"DROP INDEX k", api.OK}, {"DROP INDEX w0", api.OK}, {"DROP INDEX x", api.ErrIndex}, {"DROP INDEX t", api.ErrIndex}, {"DROP INDEX systables", api.ErrIndex},
		{"INSERT INTO t VALUES (1, 'x', 0.5, TRUE)", api.OK}, {"INSERT INTO t VALUES (NULL, NULL, NULL, NULL)", api.OK}, {"INSERT INTO x VALUES (1)", api.ErrTable}, {"INSERT INTO sysindexes VALUES (1)", api.ErrSystem},
		{"INSERT INTO t VALUES (1, 'x', 0.5)", api.ErrArity}, {"INSERT INTO t VALUES (1, 'x', 0.5, TRUE, 1)", api.ErrArity}, {"INSERT INTO t VALUES (1, 'x', 0.5, TRUE), (1)", api.ErrArity}, {"INSERT INTO t VALUES (TRUE, 'x', 0.5, TRUE), (1)", api.ErrType},
		{"INSERT INTO t VALUES (1.5, 'x', 0.5, TRUE)", api.ErrType}, {"INSERT INTO t VALUES (1, 2, 0.5, TRUE)", api.ErrType}, {"INSERT INTO t VALUES (1, 'x', 5, TRUE)", api.ErrType}, {"INSERT INTO t VALUES (1, 'x', 0.5, 1)", api.ErrType},
		{"INSERT INTO t VALUES (a, 'x', 0.5, TRUE)", api.ErrColumn}, {"INSERT INTO t VALUES (t.a, 'x', 0.5, TRUE)", api.ErrColumn}, {"INSERT INTO v VALUES ('a' || 'b'), (NULL || NULL), (NULL)", api.OK}, {"INSERT INTO v VALUES ('a' || 1)", api.ErrType}, {"INSERT INTO v VALUES (1 + 1)", api.ErrType},
		{"SELECT * FROM t", api.OK}, {"SELECT * FROM sysindexes JOIN syscolumns ON sysindexes.tbl = syscolumns.tbl", api.OK}, {"SELECT * FROM x", api.ErrTable}, {"SELECT * FROM t JOIN x ON TRUE", api.ErrTable}, {"SELECT * FROM i", api.ErrTable},
		{"SELECT * FROM t JOIN t ON TRUE", api.ErrExists}, {"SELECT * FROM t JOIN u AS t ON TRUE", api.ErrExists}, {"SELECT * FROM t AS u JOIN u ON TRUE", api.ErrExists}, {"SELECT * FROM t AS x JOIN u AS x ON TRUE", api.ErrExists}, {"SELECT * FROM t AS x JOIN t ON TRUE", api.OK}, {"SELECT * FROM t AS u JOIN u AS t ON TRUE", api.OK}, {"SELECT * FROM t AS x JOIN u ON TRUE JOIN v AS x ON TRUE", api.ErrExists},
		{"SELECT 1 FROM t WHERE NULL", api.OK}, {"SELECT 1 FROM t WHERE d", api.OK}, {"SELECT 1 FROM t WHERE a", api.ErrType}, {"SELECT 1 FROM t WHERE 0.0", api.ErrType}, {"SELECT 1 FROM t WHERE 'x'", api.ErrType}, {"SELECT 1 FROM t JOIN v ON NULL", api.OK}, {"SELECT 1 FROM t JOIN v ON f", api.ErrType}, {"SELECT 1 FROM t ORDER BY NULL, 1, a, b, c, d DESC", api.OK}, {"SELECT a AS x FROM t ORDER BY x", api.ErrColumn},
		{"UPDATE t SET a = a + 1, b = b || 'x', c = NULL, d = NOT d", api.OK}, {"UPDATE t SET a = t.a WHERE t.d", api.OK}, {"UPDATE x SET a = 1", api.ErrTable}, {"UPDATE systables SET name = 'x'", api.ErrSystem}, {"UPDATE t SET z = 1", api.ErrColumn}, {"UPDATE t SET e = 1.5", api.ErrColumn}, {"UPDATE t SET a = 1, a = 1", api.ErrExists},
		{"UPDATE t SET a = 1.5", api.ErrType}, {"UPDATE t SET a = u.a", api.ErrColumn}, {"UPDATE t SET a = e", api.ErrColumn}, {"UPDATE t SET a = 1 WHERE a", api.ErrType}, {"UPDATE t SET a = 1 WHERE z", api.ErrColumn}, {"UPDATE t SET a = 1 WHERE NULL", api.OK},
		{"DELETE FROM t", api.OK}, {"DELETE FROM t WHERE t.a > 1", api.OK}, {"DELETE FROM x", api.ErrTable}, {"DELETE FROM syscolumns", api.ErrSystem}, {"DELETE FROM t WHERE 1", api.ErrType}, {"DELETE FROM t WHERE z IS NULL", api.ErrColumn}, {"DELETE FROM t WHERE NULL", api.OK},
		{"BEGIN", api.OK}, {"COMMIT", api.OK}, {"ROLLBACK", api.OK},
	} {
		if _, e := bind.Bind(read(t, c.s), sample()); e != c.code {
			t.Errorf("%s: %d, not %d", c.s, e, c.code)
		}
	}
}

// spoilt is a fault of a statement.
type spoilt struct {
	name  string
	spoil func(st *api.Stmt)
	code  api.Errno
}

// faulty gives an expression that meets this error over the sample's tables.
func faulty(code api.Errno) api.Expr {
	switch code {
	case api.ErrType:
		return api.Expr{Op: api.OpNeg, Args: []api.Expr{{Op: api.OpConst}}}
	case api.ErrAmbiguous:
		return api.Expr{Op: api.OpIsNull, Args: []api.Expr{{Op: api.OpColumn, Text: "a"}}}
	}
	return api.Expr{Op: api.OpIsNull, Args: []api.Expr{{Op: api.OpColumn, Text: "zz"}}}
}

// inOrder looks whether of two faults in one statement that counts which is named first.
func inOrder(t *testing.T, s string, list []spoilt) {
	t.Helper()
	clean := func() api.Stmt { return read(t, s) }
	if _, e := bind.Bind(clean(), sample()); e != api.OK {
		t.Errorf("%s: %d", s, e)
	}
	for i, first := range list {
		for _, second := range append(list[i+1:len(list):len(list)], first) {
			st := clean()
			second.spoil(&st)
			first.spoil(&st)
			if x, e := bind.Bind(st, sample()); e != first.code || !same(x, api.Term{}) {
				t.Errorf("%s: %s, and %s: %+v, %d, not %d", s, first.name, second.name, x, e, first.code)
			}
		}
	}
}

func TestP16_1OrderSelect(t *testing.T) {
	inOrder(t, "SELECT x.a AS p, y.e FROM t AS x JOIN u AS y ON x.a = 1 JOIN v AS z ON y.a = 2 WHERE TRUE ORDER BY x.a, y.a DESC", []spoilt{
		{"not right", func(st *api.Stmt) { st.Table = "t" }, api.ErrArg},
		{"table 0", func(st *api.Stmt) { st.From[0].Table = "no" }, api.ErrTable},
		{"name 1", func(st *api.Stmt) { st.From[1].Alias = "x" }, api.ErrExists},
		{"table 2", func(st *api.Stmt) { st.From[2].Table = "no" }, api.ErrTable},
		{"name 2", func(st *api.Stmt) { st.From[2].Alias = "y" }, api.ErrExists},
		{"on 1", func(st *api.Stmt) { st.From[1].On = faulty(api.ErrColumn) }, api.ErrColumn},
		{"on 2", func(st *api.Stmt) { st.From[2].On = faulty(api.ErrType) }, api.ErrType},
		{"item 0", func(st *api.Stmt) { st.Items[0].E = faulty(api.ErrAmbiguous) }, api.ErrAmbiguous},
		{"item 1", func(st *api.Stmt) { st.Items[1].E = faulty(api.ErrType) }, api.ErrType},
		{"where", func(st *api.Stmt) { st.Where = faulty(api.ErrColumn) }, api.ErrColumn},
		{"sort 0", func(st *api.Stmt) { st.Order[0].E = faulty(api.ErrType) }, api.ErrType},
		{"sort 1", func(st *api.Stmt) { st.Order[1].E = faulty(api.ErrAmbiguous) }, api.ErrAmbiguous},
	})
	// A source's own table is asked for ahead of its name, and both ahead of the sources behind it.
	for _, c := range []struct {
		s    string
		code api.Errno
	}{
		{"SELECT * FROM t JOIN no AS t ON TRUE", api.ErrTable}, {"SELECT * FROM no JOIN no ON TRUE", api.ErrTable},
		{"SELECT * FROM t JOIN t ON zz JOIN no ON TRUE", api.ErrExists}, {"SELECT * FROM t JOIN no ON zz JOIN t ON TRUE", api.ErrTable},
	} {
		if _, e := bind.Bind(read(t, c.s), sample()); e != c.code {
			t.Errorf("%s: %d, not %d", c.s, e, c.code)
		}
	}
}

func TestP16_1OrderInsert(t *testing.T) {
	number := api.Expr{Op: api.OpConst, Kind: api.Int}
	inOrder(t, "INSERT INTO t VALUES (1, 'x', 0.5, TRUE), (2, 'y', 1.5, FALSE)", []spoilt{
		{"not right", func(st *api.Stmt) { st.Index = "i" }, api.ErrArg},
		{"table", func(st *api.Stmt) { st.Table = "no" }, api.ErrTable},
		{"system", func(st *api.Stmt) { st.Table = "systables" }, api.ErrSystem},
		{"row 0", func(st *api.Stmt) { st.Rows[0] = append(st.Rows[0], number) }, api.ErrArity},
		{"column 0 of row 0", func(st *api.Stmt) { st.Rows[0][0] = faulty(api.ErrColumn) }, api.ErrColumn},
		{"type 1 of row 0", func(st *api.Stmt) { st.Rows[0][1] = number }, api.ErrType},
		{"column 3 of row 0", func(st *api.Stmt) { st.Rows[0][3] = faulty(api.ErrColumn) }, api.ErrColumn},
		{"row 1", func(st *api.Stmt) { st.Rows[1] = append(st.Rows[1], number) }, api.ErrArity},
		{"type 1 of row 1", func(st *api.Stmt) { st.Rows[1][1] = number }, api.ErrType},
		{"column 2 of row 1", func(st *api.Stmt) { st.Rows[1][2] = faulty(api.ErrColumn) }, api.ErrColumn},
	})
}

func TestP16_1OrderUpdateDelete(t *testing.T) {
	where := func(st *api.Stmt) { st.Where = faulty(api.ErrColumn) }
	inOrder(t, "UPDATE t SET a = 1, b = 'x', d = TRUE WHERE d", []spoilt{
		{"not right", func(st *api.Stmt) { st.Sets[0].Col = "A" }, api.ErrArg},
		{"table", func(st *api.Stmt) { st.Table = "no" }, api.ErrTable},
		{"system", func(st *api.Stmt) { st.Table = "sysindexes" }, api.ErrSystem},
		{"column 0", func(st *api.Stmt) { st.Sets[0].Col = "no" }, api.ErrColumn},
		{"value 0", func(st *api.Stmt) { st.Sets[0].E = faulty(api.ErrColumn) }, api.ErrColumn},
		{"type 0", func(st *api.Stmt) { st.Sets[0].E = api.Expr{Op: api.OpConst, Kind: api.Bool} }, api.ErrType},
		{"column 1", func(st *api.Stmt) { st.Sets[1].Col = "no" }, api.ErrColumn},
		{"column 1 set ahead", func(st *api.Stmt) { st.Sets[1].Col = "a" }, api.ErrExists},
		{"value 1", func(st *api.Stmt) { st.Sets[1].E = faulty(api.ErrType) }, api.ErrType},
		{"column 2 set ahead", func(st *api.Stmt) { st.Sets[2].Col = "a" }, api.ErrExists},
		{"where", where, api.ErrColumn},
	})
	inOrder(t, "DELETE FROM t WHERE d", []spoilt{
		{"not right", func(st *api.Stmt) { st.Names = []string{"a"} }, api.ErrArg},
		{"table", func(st *api.Stmt) { st.Table = "no" }, api.ErrTable},
		{"system", func(st *api.Stmt) { st.Table = "syscolumns" }, api.ErrSystem},
		{"where", where, api.ErrColumn},
	})
}

func TestP16_1OrderTablesAndIndexes(t *testing.T) {
	inOrder(t, "CREATE UNIQUE INDEX x ON t (a, b, c, d)", []spoilt{
		{"not right", func(st *api.Stmt) { st.Names[0] = "" }, api.ErrArg},
		{"table", func(st *api.Stmt) { st.Table = "no" }, api.ErrTable},
		{"system", func(st *api.Stmt) { st.Table = "syscolumns" }, api.ErrSystem},
		{"index", func(st *api.Stmt) { st.Index = "w3" }, api.ErrExists},
		{"full", func(st *api.Stmt) { st.Table = "w" }, api.ErrMany},
		{"column 0", func(st *api.Stmt) { st.Names[0] = "no" }, api.ErrColumn},
		{"column 1 is 0", func(st *api.Stmt) { st.Names[1] = "a" }, api.ErrExists},
		{"column 2", func(st *api.Stmt) { st.Names[2] = "no" }, api.ErrColumn},
		{"column 3 is 0", func(st *api.Stmt) { st.Names[3] = "a" }, api.ErrExists},
	})
	inOrder(t, "CREATE TABLE x (a INT, b INT)", []spoilt{
		{"not right", func(st *api.Stmt) { st.Cols[1].Type = api.Null }, api.ErrArg},
		{"table", func(st *api.Stmt) { st.Table = "systables" }, api.ErrExists},
		{"column 1 is 0", func(st *api.Stmt) { st.Cols[1].Name = "a" }, api.ErrExists},
	})
	inOrder(t, "DROP TABLE t", []spoilt{
		{"not right", func(st *api.Stmt) { st.Where = faulty(api.ErrType) }, api.ErrArg},
		{"table", func(st *api.Stmt) { st.Table = "no" }, api.ErrTable},
		{"system", func(st *api.Stmt) { st.Table = "syscolumns" }, api.ErrSystem},
	})
	inOrder(t, "DROP INDEX i", []spoilt{
		{"not right", func(st *api.Stmt) { st.Unique = true }, api.ErrArg},
		{"index", func(st *api.Stmt) { st.Index = "no" }, api.ErrIndex},
	})
	inOrder(t, "BEGIN", []spoilt{{"not right", func(st *api.Stmt) { st.Table = "t" }, api.ErrArg}})
	inOrder(t, "COMMIT", []spoilt{{"not right", func(st *api.Stmt) { st.Kind = 12 }, api.ErrArg}})
	inOrder(t, "ROLLBACK", []spoilt{{"not right", func(st *api.Stmt) { st.Kind = 0 }, api.ErrArg}})
}

// negated gives -1 with so many signs.
func negated(depth int) api.Expr {
	e := api.Expr{Op: api.OpConst, Kind: api.Int, Num: 1}
	for range depth {
		e = api.Expr{Op: api.OpNeg, Args: []api.Expr{e}}
	}
	return e
}

func TestP16_1CheckFirst(t *testing.T) {
	for _, c := range []struct {
		depth int
		code  api.Errno
	}{{39, api.OK}, {40, api.OK}, {41, api.ErrDeep}, {50000, api.ErrDeep}} {
		st := api.Stmt{Kind: api.StUpdate, Table: "t", Sets: []api.Set{{Col: "a", E: negated(c.depth)}}}
		if _, e := bind.Bind(st, sample()); e != c.code {
			t.Errorf("depth %d: %d, not %d", c.depth, e, c.code)
		}
		st.Table = "no"
		want := c.code
		if want == api.OK {
			want = api.ErrTable
		}
		if _, e := bind.Bind(st, sample()); e != want {
			t.Errorf("depth %d, no table: %d, not %d", c.depth, e, want)
		}
		st.Sets[0].Col = strings.Repeat("a", 33)
		if _, e := bind.Bind(st, sample()); e != api.ErrArg {
			t.Errorf("depth %d, no name: %d", c.depth, e)
		}
	}
}

func TestP16_1FullTables(t *testing.T) {
	for n := range 10 {
		x := sample()
		x[3].Indexes = slices.Repeat(x[3].Indexes[:1], n)
		for i := range x[3].Indexes {
			x[3].Indexes[i].Name = fmt.Sprint("w", i)
		}
		want := api.OK
		if n >= 8 {
			want = api.ErrMany
		}
		if _, e := bind.Bind(read(t, "CREATE INDEX x ON w (h)"), x); e != want {
			t.Errorf("%d indexes: %d, not %d", n, e, want)
		}
	}
}
