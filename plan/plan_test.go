package plan_test

import (
	"fmt"
	"slices"
	"strings"
	"testing"

	"hasp/api"
	"hasp/bind"
	"hasp/parse"
	"hasp/plan"
	"hasp/schema"
	"hasp/table"
)

// world is some tables, and how many rows each may have.
type world struct {
	*testing.T
	store
	list []api.Table
	most int
}

// stored gives a world of these tables, without rows; the system tables are there, too.
func stored(t *testing.T, list ...api.Table) world {
	w := world{t, store{}, list, api.MaxRows}
	for _, desc := range append(schema.System(), list...) {
		made, code := table.New(desc)
		if code != api.OK {
			t.Fatalf("%+v: %d", desc, code)
		}
		w.store[desc.Name] = made
	}
	return w
}

// sample gives t (a INT, b REAL, c INT) and u (a INT, b INT) with indexes, and v (a INT) without.
func sample(t *testing.T) world {
	ints := func(names ...string) (cols []api.Column) {
		for _, name := range names {
			cols = append(cols, api.Column{Name: name, Type: api.Int})
		}
		return cols
	}
	tCols := ints("a", "b", "c")
	tCols[1].Type = api.Real
	return stored(t,
		api.Table{Name: "t", Cols: tCols, Indexes: []api.Index{{Name: "i", Cols: []int{0}, Unique: true}, {Name: "k", Cols: []int{2, 1}}}},
		api.Table{Name: "u", Cols: ints("a", "b"), Indexes: []api.Index{{Name: "j", Cols: []int{1, 0}, Unique: true}}},
		api.Table{Name: "v", Cols: ints("a")})
}

func (w world) term(s string) api.Term {
	w.Helper()
	st, code := parse.Parse(s)
	if code != api.OK {
		w.Fatalf("%s: %d", s, code)
	}
	x, code := bind.Bind(st, w.list)
	if code != api.OK {
		w.Fatalf("%s: %d", s, code)
	}
	return x
}

func (w world) plan(s string) api.Plan {
	w.Helper()
	x := w.term(s)
	p, code := plan.Make(x)
	if code != api.OK {
		w.Fatalf("%s: %d", s, code)
	}
	holds(w.T, s, x, p)
	return p
}

// answers plays a statement, and holds its rows against these.
func (w world) answers(s string, want ...string) {
	w.Helper()
	_, got := played(w.T, w.store, w.most, s, w.term(s))
	var list []string
	for _, row := range got.rows {
		var values []string
		for _, v := range row {
			if v.Kind == api.Null {
				values = append(values, "NULL")
			} else {
				values = append(values, fmt.Sprint(v.Num))
			}
		}
		list = append(list, strings.Join(values, " "))
	}
	if got.code != api.OK || !slices.Equal(list, want) {
		w.Errorf("%s: %d, %q, not %q", s, got.code, list, want)
	}
}

// counts plays a statement, and holds how many rows it changed.
func (w world) counts(s string, want int) {
	w.Helper()
	if _, got := played(w.T, w.store, w.most, s, w.term(s)); got.code != api.OK || got.count != want {
		w.Errorf("%s: %d, %d rows, not %d", s, got.code, got.count, want)
	}
}

// fails plays a statement, and holds its error.
func (w world) fails(s string, want api.Errno) {
	w.Helper()
	if _, got := played(w.T, w.store, w.most, s, w.term(s)); got.code != want {
		w.Errorf("%s: %d, not %d", s, got.code, want)
	}
}

// opened tells by which indexes the cursors of a plan are opened, in that order.
func opened(p api.Plan) (cursors, indexes []int) {
	for _, i := range p.Code {
		if i.Op == api.InOpen {
			cursors, indexes = append(cursors, i.C), append(indexes, i.Index)
		}
	}
	return cursors, indexes
}

func TestP23_1Kinds(t *testing.T) {
	w := sample(t)
	for _, s := range []string{"CREATE TABLE z (a INT)", "DROP TABLE t", "CREATE INDEX z ON t (a)", "DROP INDEX i", "BEGIN", "COMMIT", "ROLLBACK"} {
		if p, code := plan.Make(w.term(s)); code != api.ErrPlan || p.Table != "" || len(p.Code) != 0 {
			t.Errorf("%s: %d, %+v", s, code, p)
		}
	}
	for _, s := range []string{"INSERT INTO t VALUES (1, 2.0, 3)", "SELECT * FROM t", "UPDATE t SET a = 1", "DELETE FROM t"} {
		if p, code := plan.Make(w.term(s)); code != api.OK || len(p.Code) == 0 {
			t.Errorf("%s: %d, %+v", s, code, p)
		}
	}
}

// TestP23_4Example has the chapter's example.
func TestP23_4Example(t *testing.T) {
	p := sample(t).plan("SELECT * FROM t WHERE a = 5")
	var ops []int
	for _, i := range p.Code {
		ops = append(ops, i.Op)
	}
	if !slices.Equal(ops, []int{api.InLock, api.InOpen, api.InNext, api.InTest, api.InEmit, api.InJump, api.InHalt}) {
		t.Fatalf("%+v", p)
	}
	five := fmt.Sprint([]api.Code{{Op: api.OpConst, Type: api.Int, Val: api.Value{Kind: api.Int, Num: 5}}})
	lock, open, next := p.Code[0], p.Code[1], p.Code[2]
	if lock.Mode != api.IS || open.Index != 0 || fmt.Sprint(open.Lo) != five || fmt.Sprint(open.Hi) != five || open.LoOut || open.HiOut || next.To != 6 || p.Code[5].To != 2 {
		t.Errorf("%+v", p)
	}
}

// TestP23_4Told has statements of one source in which all columns of a unique index are told, and each is opened along an index.
func TestP23_4Told(t *testing.T) {
	w := sample(t)
	for _, s := range []string{
		"SELECT * FROM t WHERE 5 = a",
		"SELECT b FROM t AS x WHERE x.b > 0.0 AND (c < 3 AND (x.a = 5 AND b < 9.0))",
		"SELECT a FROM t WHERE a = NULL",
		"SELECT a FROM t WHERE a = 1 / 0 ORDER BY b",
		"SELECT a FROM t WHERE a = 1 + 2 * 3 AND a = 4",
		"SELECT a FROM t WHERE c = 1 AND a = 2",
		"SELECT a FROM u WHERE a = 1 AND b = 2",
		"SELECT a FROM u WHERE b > 7 AND 2 = b AND INT(0.5) = a",
		"UPDATE t SET b = 1.0 WHERE a = 5",
		"UPDATE u SET a = b, b = a WHERE a = 5 AND b = 6",
		"DELETE FROM t WHERE a = 5",
	} {
		if x := w.term(s); !isTold(x) {
			t.Errorf("%s tells no unique index", s)
		}
		if _, indexes := opened(w.plan(s)); len(indexes) != 1 || indexes[0] < 0 {
			t.Errorf("%s opens %v", s, indexes)
		}
	}
	for _, s := range []string{"SELECT a FROM t", "SELECT a FROM t WHERE a <> 5", "SELECT a FROM t WHERE a = c", "SELECT a FROM t WHERE NOT a = 5", "SELECT a FROM t WHERE a = 5 OR a = 6", "SELECT a FROM t WHERE a IS NULL", "SELECT a FROM u WHERE a = 5", "SELECT a FROM v WHERE a = 5"} {
		if _, indexes := opened(w.plan(s)); !slices.Equal(indexes, []int{-1}) {
			t.Errorf("%s opens %v, though nothing bounds a column that an index begins with", s, indexes)
		}
	}
}

// TestP23_2Order holds which sources go ahead, and along which index.
func TestP23_2Order(t *testing.T) {
	w := sample(t)
	for _, c := range []struct {
		s                string
		cursors, indexes []int
	}{
		{"SELECT 1 FROM t JOIN v ON TRUE", []int{0, 1}, []int{-1, -1}},
		{"SELECT 1 FROM t JOIN v ON t.a = v.a", []int{1, 0}, []int{-1, 0}},
		{"SELECT 1 FROM v JOIN t ON t.a = v.a", []int{0, 1}, []int{-1, 0}},
		{"SELECT 1 FROM t JOIN t AS x ON t.a = x.a", []int{0, 1}, []int{-1, 0}},
		{"SELECT 1 FROM t JOIN t AS x ON t.a = x.a WHERE x.a = 3", []int{1, 0}, []int{0, 0}},
		{"SELECT 1 FROM t JOIN u ON t.c = u.a WHERE u.b < 3 AND t.b = 0.0", []int{1, 0}, []int{0, 1}},
		{"SELECT 1 FROM t JOIN u ON t.c > u.a", []int{1, 0}, []int{-1, 1}},
		{"SELECT 1 FROM u JOIN v ON TRUE JOIN t ON t.a = u.a + v.a AND u.b = v.a", []int{1, 0, 2}, []int{-1, 0, 0}},
		{"SELECT 1 FROM t WHERE a > 1 AND c = 2", []int{0}, []int{1}},
		{"SELECT 1 FROM t WHERE a > 1 AND a < 5 AND c > 2", []int{0}, []int{0}},
		{"SELECT 1 FROM t WHERE c = 2 AND b = 0.5 AND a = 1", []int{0}, []int{0}},
	} {
		if cursors, indexes := opened(w.plan(c.s)); !slices.Equal(cursors, c.cursors) || !slices.Equal(indexes, c.indexes) {
			t.Errorf("%s opens %v along %v, not %v along %v", c.s, cursors, indexes, c.cursors, c.indexes)
		}
	}
}

// TestP23_2Locks holds the modes, table by table, and those of keys and rows.
func TestP23_2Locks(t *testing.T) {
	w := sample(t)
	for _, c := range []struct{ s, locks, nexts string }{
		{"SELECT 1 FROM v", "v3", "0/0"},
		{"SELECT 1 FROM t WHERE a > 5", "t1", "3/3"},
		{"SELECT 1 FROM systables", "systables3", "0/0"},
		{"SELECT 1 FROM t JOIN t AS x ON x.a = t.a", "t3", "0/0 3/3"},
		{"SELECT 1 FROM t JOIN u ON t.a = 1 AND u.b = 1", "t1 u1", "3/3 3/3"},
		{"INSERT INTO t VALUES (1, 1.0, 1)", "t2", ""},
		{"DELETE FROM v", "v4", "0/5"},
		{"DELETE FROM t WHERE a = 1", "t2", "5/5"},
		{"UPDATE v SET a = 1 WHERE a = 2", "v4", "0/5"},
		{"UPDATE t SET b = 1.0 WHERE a = 2", "t2", "3/5"},
		{"UPDATE t SET a = 1, b = b WHERE a = 2", "t2", "5/5"},
		{"UPDATE t SET b = 1.0 WHERE c = 2", "t2", "5/5"},
		{"UPDATE t SET a = c, b = b, c = c WHERE c = 2", "t2", "3/5"},
		{"UPDATE t SET c = a WHERE c = 2", "t2", "5/5"},
	} {
		var locks, nexts []string
		for _, i := range w.plan(c.s).Code {
			switch i.Op {
			case api.InLock:
				locks = append(locks, fmt.Sprint(i.Table, i.Mode))
			case api.InNext:
				nexts = append(nexts, fmt.Sprintf("%d/%d", i.Mode, i.Part))
			}
		}
		if strings.Join(locks, " ") != c.locks || strings.Join(nexts, " ") != c.nexts {
			t.Errorf("%s locks %v, goes on with %v", c.s, locks, nexts)
		}
	}
}

// TestP23_2Bounds holds from where to where an index is gone through: no further than the conditions leave.
func TestP23_2Bounds(t *testing.T) {
	w := sample(t)
	for _, c := range []struct {
		s            string
		lo, hi       int
		loOut, hiOut bool
	}{
		{"SELECT 1 FROM t WHERE a = 5 AND a > 3 AND a < 9", 1, 1, false, false},
		{"SELECT 1 FROM t WHERE a > 5", 1, 0, true, false},
		{"SELECT 1 FROM t WHERE a >= 5", 1, 0, false, false},
		{"SELECT 1 FROM t WHERE a < 5", 0, 1, false, true},
		{"SELECT 1 FROM t WHERE a <= 5", 0, 1, false, false},
		{"SELECT 1 FROM t WHERE 5 > a AND 3 <= a", 1, 1, false, true},
		{"SELECT 1 FROM t WHERE 5 >= a AND 3 < a", 1, 1, true, false},
		{"SELECT 1 FROM t WHERE c = 5", 1, 1, false, false},
		{"SELECT 1 FROM t WHERE b = 1.0 AND c = 5", 2, 2, false, false},
		{"SELECT 1 FROM t WHERE b > 1.0 AND c = 5", 2, 1, true, false},
		{"SELECT 1 FROM t WHERE b < 1.0 AND c = 5", 1, 2, false, true},
		{"SELECT 1 FROM t WHERE b < 1.0 AND c = 5 AND b > 0.5", 2, 2, true, true},
		{"SELECT 1 FROM t WHERE b = 1.0 AND c >= 5", 1, 0, false, false},
		{"DELETE FROM t WHERE a > 5 AND a <= 9", 1, 1, true, false},
		{"UPDATE t SET b = 1.0 WHERE a >= 5 AND a < 9", 1, 1, false, true},
	} {
		open := w.plan(c.s).Code[1]
		if open.Op != api.InOpen || len(open.Lo) != c.lo || len(open.Hi) != c.hi || open.LoOut != c.loOut || open.HiOut != c.hiOut {
			t.Errorf("%s: %+v", c.s, open)
		}
	}
}

// TestP23_3Queries has the document's examples of queries, and bounds whose operands are Null or meet errors.
func TestP23_3Queries(t *testing.T) {
	w := sample(t)
	w.answers("SELECT a FROM t WHERE a = 1 / 0")
	w.counts("INSERT INTO t VALUES (1, 0.5, 1), (2, NAN, 1), (3, - INFINITY, 2), (NULL, NULL, NULL)", 4)
	w.answers("SELECT a FROM t WHERE b IS NOT NULL ORDER BY b", "3", "1", "2")
	w.fails("SELECT a FROM t WHERE b > 0.0 AND 1 / (a - 2) < 5", api.ErrZero)
	w.answers("SELECT a FROM t WHERE b > 0.0 AND 1 / (a - 2) < 5 AND a <> 2", "1")
	w.answers("SELECT 1 / (a - 2) FROM t WHERE a <> 2 AND a < 3", "-1")
	w.fails("SELECT 1 / (a - 2) FROM t WHERE a <= 2", api.ErrZero)
	w.fails("SELECT a FROM t WHERE a <= 2 ORDER BY 1 / (a - 2)", api.ErrZero)
	w.answers("SELECT a FROM t WHERE a >= 2 AND a < 3", "2")
	w.answers("SELECT a FROM t WHERE a > 1 AND a <= 3 ORDER BY a DESC", "3", "2")
	w.answers("SELECT a FROM t WHERE a = NULL")
	w.answers("SELECT a FROM t WHERE a > NULL AND a < 1 / 0")
	w.fails("SELECT a FROM t WHERE a = 1 / 0", api.ErrZero)
	w.fails("SELECT a FROM t WHERE a < 1 / 0 AND a IS NULL", api.ErrZero)
	w.fails("SELECT a FROM t WHERE a > 1 / 0 AND a > 2", api.ErrZero)
	w.answers("SELECT a FROM t WHERE a > 1 / 0 AND a > 5")
	w.fails("SELECT a FROM t WHERE c = 1 AND b = 1.0 / REAL(1 / 0)", api.ErrZero)
	w.answers("SELECT a FROM t WHERE c = 5 AND b = 1.0 / REAL(1 / 0)")
	w.fails("SELECT a FROM t WHERE a = 1 / 0 OR a = 9223372036854775807 + 1", api.ErrOverflow)
	w.answers("SELECT a FROM t WHERE c = 1 AND b > 0.5", "2")
	w.answers("SELECT a FROM t WHERE c = 1 AND b >= 0.5 ORDER BY b DESC", "2", "1")
	w.answers("SELECT a FROM t WHERE c = 1 AND b < NAN", "1")
	w.answers("SELECT x.a, y.a FROM t AS x JOIN t AS y ON x.a < y.a AND x.c = y.c", "1 2")
	w.answers("SELECT x.a, y.a FROM t AS x JOIN t AS y ON x.a = y.c ORDER BY y.a", "1 1", "1 2", "2 3")
	w.answers("SELECT * FROM v JOIN t ON 1 / 0 = 1")
	w.answers("SELECT * FROM systables")
}

// TestP23_3Changes has the document's examples of changes.
func TestP23_3Changes(t *testing.T) {
	w := sample(t)
	w.counts("INSERT INTO t VALUES (1, 0.5, 1), (2, NAN, 1), (3, - INFINITY, 2)", 3)
	w.counts("UPDATE t SET a = a + 1", 3)
	w.counts("UPDATE t SET a = a + 1 WHERE a > 0", 3)
	w.counts("UPDATE t SET c = c + 1, a = c WHERE c < 2 AND b < NAN", 1)
	w.answers("SELECT a, c FROM t ORDER BY a", "1 2", "4 1", "5 2")
	w.fails("INSERT INTO t VALUES (4, NULL, NULL)", api.ErrUnique)
	w.fails("INSERT INTO t VALUES (6, NULL, NULL), (6, NULL, NULL)", api.ErrUnique)
	w.fails("UPDATE t SET a = 4 WHERE a = 5", api.ErrUnique)
	w.fails("UPDATE t SET a = 1 / (a - 4)", api.ErrZero)
	w.fails("INSERT INTO t VALUES (1 / 0, NULL, NULL), (9223372036854775807 + 1, NULL, NULL)", api.ErrOverflow)
	w.fails("UPDATE t SET a = 1 / (a - 4) WHERE a = 5", api.ErrUnique)
	w.counts("UPDATE t SET a = 6 / (a - 4) WHERE a = 5", 1)
	w.fails("DELETE FROM t WHERE 1 / (a - 4) = 1", api.ErrZero)
	w.counts("DELETE FROM t WHERE 1 / (a - 4) = 0 AND a < 4", 1)
	w.counts("DELETE FROM t WHERE a = 1", 0)
	w.counts("DELETE FROM t", 2)
	w.counts("DELETE FROM t", 0)
	w.most = 2
	w.fails("INSERT INTO v VALUES (1), (2), (3)", api.ErrFull)
	w.counts("INSERT INTO v VALUES (1), (2)", 2)
	w.fails("INSERT INTO v VALUES (3)", api.ErrFull)
	w.counts("UPDATE v SET a = a + 1", 2)
}

// TestP23_3FewSteps holds that a join along an index takes no more steps than its rows are worth.
func TestP23_3FewSteps(t *testing.T) {
	w := sample(t)
	for i := range 100 {
		w.counts(fmt.Sprintf("INSERT INTO t VALUES (%d, 0.5, %d)", i, i), 1)
		w.counts(fmt.Sprintf("INSERT INTO v VALUES (%d)", 50+i), 1)
	}
	for s, most := range map[string]int{
		"SELECT t.a FROM t JOIN v ON t.a = v.a":                             1000,
		"SELECT t.a FROM v JOIN t ON t.a = v.a":                             1000,
		"SELECT t.a FROM t JOIN v ON t.a = v.a JOIN t AS x ON x.c = v.a":    1500,
		"SELECT t.a FROM v JOIN t ON t.a > v.a WHERE t.a < 60 AND v.a > 55": 1500,
		"SELECT t.a FROM t WHERE a >= 5 AND a < 10":                         40,
		"DELETE FROM t WHERE a = 5":                                         20,
		"SELECT v.a FROM v JOIN v AS x ON x.a > 0 WHERE v.a = 60":           1000,
		"SELECT v.a FROM v JOIN v AS x ON v.a = 60 JOIN v AS y ON x.a = 60": 1500,
	} {
		if _, took := run(t, w.store, w.most, w.plan(s), 100000); took > most {
			t.Errorf("%s takes %d steps", s, took)
		}
	}
}

// TestP23_3Greatest has statements that are as great as they may be.
func TestP23_3Greatest(t *testing.T) {
	cols := make([]api.Column, api.MaxColumns)
	for i := range cols {
		cols[i] = api.Column{Name: fmt.Sprint("c", i), Type: api.Int}
	}
	great := api.Table{Name: "g", Cols: cols}
	for i := range api.MaxIndexes {
		great.Indexes = append(great.Indexes, api.Index{Name: fmt.Sprint("g", i), Cols: []int{i, i + 1, i + 2, i + 3}, Unique: i == 7})
	}
	w := stored(t, great)
	row := "(" + strings.Repeat("1, ", api.MaxColumns-1) + "%d)"
	var rows []string
	for i := range api.MaxList {
		rows = append(rows, fmt.Sprintf(row, i))
	}
	w.fails("INSERT INTO g VALUES "+strings.Join(rows, ", "), api.ErrUnique)
	w.counts("INSERT INTO g VALUES "+rows[0], 1)
	w.counts("UPDATE g SET c0 = 0 WHERE "+strings.Repeat("c1 = 1 AND ", 39)+"c2 = 1", 1)
	w.counts("INSERT INTO g VALUES ("+strings.Repeat("2, ", api.MaxColumns-1)+"2)", 1)
	list := strings.Repeat("x1.c0, ", api.MaxList-1) + "x2.c15"
	w.answers("SELECT "+list+" FROM g AS x0 JOIN g AS x1 ON x0.c0 < x1.c0 JOIN g AS x2 ON x2.c0 = x1.c0 JOIN g AS x3 ON x3.c1 = x2.c15 ORDER BY "+list, strings.TrimSpace(strings.Repeat("2 ", api.MaxList)))
	_, got := played(t, w.store, w.most, "a product", w.term("SELECT * FROM g AS x0 JOIN g AS x1 ON TRUE JOIN g AS x2 ON TRUE JOIN g AS x3 ON TRUE"))
	if len(got.rows) != 16 || len(got.rows[0]) != 64 {
		t.Errorf("%d rows", len(got.rows))
	}
}
