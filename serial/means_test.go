package serial_test

import (
	"fmt"
	"strings"
	"testing"

	"hasp/api"
)

// TestP27_1Whole has the examples of the whole that need one session.
func TestP27_1Whole(t *testing.T) {
	open(t, 3).says(
		"CREATE TABLE t (a INT NOT NULL, b REAL)", "1/1",
		"SELECT * FROM systables", "2/2 [name] t",
		"INSERT INTO t VALUES (1, 0.5), (2, NAN), (3, - INFINITY)", "3/3 count 3",
		"SELECT a FROM t ORDER BY b", "4/4 [a] 3 1 2",
		"SELECT a FROM t WHERE b > 0.0 AND 1 / (a - 2) < 5", "5/5 code 32",
		"SELECT a FROM t WHERE b > 0.0 AND 1 / (a - 2) < 5 AND a <> 2", "6/6 [a] 1",
		"CREATE UNIQUE INDEX i ON t (a)", "7/7",
		"DELETE FROM t WHERE a = 9", "8/8",
		"UPDATE t SET a = a + 1", "9/9 count 3",
		"INSERT INTO t VALUES (2, NULL)", "10/10 code 190",
		"SELECT a FROM", "0/0 code 130",
		"SELECT z FROM t", "11/11 code 161",
		"SELECT a + b FROM t", "12/12 code 30",
		"INSERT INTO t VALUES (9, NULL)", "13/13 code 191",
		"BEGIN", "14/0",
		"DELETE FROM t WHERE a = 2", "14/0 count 1",
		"INSERT INTO t VALUES (9, NULL)", "14/0 count 1",
		"INSERT INTO t VALUES (1, NULL)", "14/0 code 191",
		"COMMIT", "14/14",
		"SELECT a FROM t ORDER BY a DESC", "15/15 [a] 9 4 3",
	)
}

// errorsAhead gives t (a, b), of which a = 0, b IS NULL and the greatest number in b meet errors; and u (c), and an empty table.
func errorsAhead(t *testing.T) *desk {
	t.Helper()
	return open(t, 9, "CREATE TABLE t (a INT, b INT)", "INSERT INTO t VALUES (0, 1), (1, NULL), (2, 9223372036854775807)", "CREATE TABLE u (c INT)", "INSERT INTO u VALUES (0), (2)", "CREATE TABLE none (n INT)")
}

// TestP27_1Where holds which rows one source's conditions let through, and which errors count: those of rows that nothing keeps out.
func TestP27_1Where(t *testing.T) {
	for where, want := range map[string]struct {
		code  api.Errno
		which string
		count int
	}{
		"TRUE":  {which: " 0 1 2", count: 3},
		"FALSE": {}, "NULL": {}, "NULL = NULL": {}, "a <> b": {which: " 0 2", count: 2},
		"1 / a = 1": {code: api.ErrZero}, "1 / a = 1 AND a > 0": {which: " 1", count: 1}, "a > 0 AND 1 / a = 1": {which: " 1", count: 1},
		"1 / a = 1 AND (a > 0 OR NULL)":   {which: " 1", count: 1}, // what isn't known keeps out, too
		"(1 / a = 1 AND NULL) OR FALSE":   {code: api.ErrZero},     // but not within a conjunct
		"1 / a = 1 AND NULL":              {},
		"1 / a < 5 AND b + 1 > 0":         {code: api.ErrOverflow}, // two rows with errors: the lesser counts
		"b + 1 > 0 AND 1 / a < 5":         {code: api.ErrOverflow},
		"1 / (a - 2) = 1 AND b + 1 > 0":   {code: api.ErrOverflow}, // one row with two errors
		"1 / (a - 2) = 1 AND b < 5":       {},
		"1 / 0 = 1":                       {code: api.ErrZero}, // of no source
		"1 / 0 = 1 AND a > 5":             {},
		"FALSE AND 1 / 0 = 1":             {},
		"a = 1 AND 1 / 0 = 1 AND b > 0":   {},
		"a = 0 AND 1 / 0 = 1 AND b > 0":   {code: api.ErrZero},
		"(a = 0 OR a = 2) AND b IS NULL":  {},
		"NOT (a = 0 OR a = 2 OR b > 300)": {}, "b IS NULL": {which: " 1", count: 1},
	} {
		r := errorsAhead(t).Do("SELECT a FROM t WHERE " + where)
		which := strings.TrimPrefix(shown(r), fmt.Sprint(r.Txn, "/", r.Seq, " [a]"))
		if r.Code != want.code || which != want.which && r.Code == api.OK {
			t.Errorf("%s: %v", where, r)
		}
		d := errorsAhead(t)
		if r := d.Do("UPDATE t SET b = -7 WHERE " + where); r.Code != want.code || r.Count != want.count || strings.Count(d.content(), "-7") != want.count {
			t.Errorf("UPDATE WHERE %s: %v leaves %s", where, r, d.content())
		}
		d = errorsAhead(t)
		if r := d.Do("DELETE FROM t WHERE " + where); r.Code != want.code || r.Count != want.count || len(d.Dump()[1].Rows) != 3-want.count {
			t.Errorf("DELETE WHERE %s: %v leaves %s", where, r, d.content())
		}
	}
}

// TestP27_1Joins holds which errors count where there are several sources.
func TestP27_1Joins(t *testing.T) {
	d := errorsAhead(t)
	for _, c := range [][2]string{
		{"SELECT n FROM none WHERE 1 / 0 = 1", "[n]"}, // without any row
		{"SELECT a FROM t JOIN none ON 1 / 0 = 1 WHERE 1 / a = 1", "[a]"},
		{"SELECT n FROM none JOIN t ON 1 / 0 = 1 WHERE 1 / a = 1", "[n]"},
		{"SELECT a FROM t JOIN u ON 1 / a = 1 WHERE c > 5", "[a]"}, // a later source's row keeps out
		{"SELECT a FROM t JOIN u ON 1 / a = 1 WHERE a + c = 0", "code 32"},
		{"SELECT a FROM t JOIN u ON 1 / a = 1 WHERE a + c > 2", "[a] 1"},
		{"SELECT a, c FROM t JOIN u ON 1 / c = 0 WHERE a > 1", "code 32"},
		{"SELECT a, c FROM t JOIN u ON 1 / c = 0 AND a < c", "[a c] 0,2 1,2"},
		{"SELECT a, c FROM t JOIN u ON b + 1 > 0 WHERE 1 / c < 5", "code 31"},
		{"SELECT a, c FROM t JOIN u ON TRUE WHERE 1 / c < 5 AND b + 1 < 0", "code 31"},
		{"SELECT a, c FROM t JOIN u ON TRUE WHERE 1 / c < 5 AND b < 5", "code 32"},
		{"SELECT x.a FROM t AS x JOIN t AS y ON x.a < y.a JOIN t AS z ON y.a < z.a AND 1 / x.a = 1", "code 32"},
		{"SELECT x.a FROM t AS x JOIN t AS y ON x.a < y.a JOIN t AS z ON y.a < z.a AND 1 / x.a = 1 WHERE z.b IS NULL", "[a]"},
		{"SELECT x.a, y.a FROM t AS x JOIN t AS y ON x.a = y.b", "[a a] 1,0"},
	} {
		r := d.Do(c[0])
		r.Txn, r.Seq = 0, 0
		told(t, c[0], shown(r), "0/0 "+c[1])
	}
}

// TestP27_1Items holds which errors count in items, sorts and new rows: those of rows that are let through, beside those of the conditions.
func TestP27_1Items(t *testing.T) {
	d := open(t, 9, "CREATE TABLE t (a INT, b INT NOT NULL, s TEXT)", "INSERT INTO t VALUES (0, 9223372036854775807, 'x'), (1, 1, 'y')")
	long := "'" + strings.Repeat("z", 200) + "'"
	for _, c := range [][2]string{
		{"SELECT 1 / a FROM t", "code 32"}, {"SELECT 1 / a FROM t WHERE a > 0", "[] 1"}, {"SELECT a FROM t ORDER BY 1 / a", "code 32"}, {"SELECT a FROM t WHERE a > 0 ORDER BY 1 / a", "[a] 1"},
		{"SELECT 1 / a, b + 1 FROM t", "code 31"}, {"SELECT 1 / a FROM t ORDER BY b + 1", "code 31"}, {"SELECT b + 1 FROM t ORDER BY 1 / a", "code 31"}, {"SELECT s || " + long + ", 1 / a FROM t", "code 1"},
		{"SELECT b + 1 FROM t WHERE 1 / (a - 1) < 5", "code 31"}, {"SELECT 1 / a FROM t WHERE b + 1 < 5", "code 31"}, {"SELECT 1 / a FROM t WHERE 1 / a < 5", "code 32"},
		{"UPDATE t SET a = 1 / a", "code 32"}, {"UPDATE t SET a = 1 / a WHERE a = 1", "count 1"}, {"UPDATE t SET b = NULL WHERE a = 1", "code 60"}, {"UPDATE t SET b = NULL, a = 1 / a", "code 32"}, {"UPDATE t SET b = b + 1, a = 1 / a", "code 31"},
		{"UPDATE t SET b = NULL WHERE 1 / a > 5", "code 32"}, {"UPDATE t SET s = s || " + long + " WHERE a = 1", "code 1"}, {"UPDATE t SET b = NULL WHERE FALSE", ""},
		{"INSERT INTO t VALUES (1, NULL, NULL)", "code 60"}, {"INSERT INTO t VALUES (1, NULL, NULL), (1 / 0, 1, NULL)", "code 32"}, {"INSERT INTO t VALUES (1 / 0, NULL, NULL)", "code 32"}, {"INSERT INTO t VALUES (1 / 0, 1, NULL), (1, 9223372036854775807 + 1, NULL)", "code 31"},
		{"INSERT INTO t VALUES (1, 1, 'x' || " + long + "), (1, NULL, NULL)", "code 1"}, {"INSERT INTO t VALUES (INT(NAN), 1, NULL), (1 / 0, 1, NULL)", "code 10"},
		{"INSERT INTO t VALUES (1, 1)", "code 61"}, {"INSERT INTO t VALUES ('x', 1, NULL)", "code 30"}, {"SELECT a AND TRUE FROM t", "code 30"}, {"SELECT a FROM t JOIN t AS x ON TRUE", "code 162"}, {"SELECT t.a FROM t JOIN t ON TRUE", "code 163"},
		{"INSERT INTO systables VALUES ('x')", "code 165"}, {"DELETE FROM syscolumns", "code 165"}, {"UPDATE sysindexes SET name = 'x'", "code 165"}, {"DROP TABLE systables", "code 165"},
	} {
		before := d.content()
		d.ok("BEGIN")
		r := d.Do(c[0])
		r.Txn = 0
		told(t, c[0], shown(r), strings.TrimSpace("0/0 "+c[1]))
		if r.Code != api.OK && d.content() != before {
			t.Errorf("%s changes something: %s", c[0], d.content())
		}
		d.ok("ROLLBACK")
	}
}

// TestP27_1Unique holds rows against each other behind all changes, not on the way.
func TestP27_1Unique(t *testing.T) {
	open(t, 9, "CREATE TABLE t (a INT, b TEXT)", "CREATE UNIQUE INDEX i ON t (a, b)", "INSERT INTO t VALUES (1, 'x'), (2, 'x'), (3, 'x')").says(
		"UPDATE t SET a = a + 1", "4/4 count 3",
		"UPDATE t SET a = 6 - a", "5/5 count 3",
		"UPDATE t SET a = 2 WHERE a = 3", "6/6 code 190",
		"UPDATE t SET a = NULL", "7/7 count 3", // what isn't known is alike to nothing
		"INSERT INTO t VALUES (NULL, 'x')", "8/8 count 1",
		"INSERT INTO t VALUES (1, NULL), (1, NULL), (1, 'x')", "9/9 count 3",
		"INSERT INTO t VALUES (5, 'x'), (5, 'x')", "10/10 code 190",
		"INSERT INTO t VALUES (1, 'x')", "11/11 code 190",
		"INSERT INTO t VALUES (1, 'y')", "12/12 count 1",
		"CREATE UNIQUE INDEX j ON t (b)", "13/13 code 190",
		"DELETE FROM t WHERE a IS NULL OR b IS NULL OR b = 'x'", "14/14 count 7",
		"CREATE UNIQUE INDEX j ON t (b)", "15/15",
		"INSERT INTO t VALUES (2, 'y')", "16/16 code 190",
		"DROP INDEX j", "17/17",
		"INSERT INTO t VALUES (2, 'y')", "18/18 count 1",
		"UPDATE t SET a = 7", "19/19 code 190",
		"SELECT * FROM t", "20/20 [a b] 1,y 2,y",
	)
}

// TestP27_1Full fills tables up to the greatest number of rows.
func TestP27_1Full(t *testing.T) {
	for _, rows := range []int{1, 2, 49, 50, 51, 1000} {
		d := open(t, rows, "CREATE TABLE t (a INT)")
		for n := 0; n < rows; {
			some := min(rows-n, 50)
			d.ok("INSERT INTO t VALUES (1)" + strings.Repeat(", (1)", some-1))
			n += some
		}
		if r := d.Do("INSERT INTO t VALUES (1)"); r.Code != api.ErrFull {
			t.Errorf("%d rows: %d", rows, r.Code)
		}
		if r := d.Do("UPDATE t SET a = 2"); r.Count != rows {
			t.Errorf("%d rows: %v", rows, r)
		}
		if n := len(d.Dump()[0].Rows); n != rows {
			t.Errorf("%d rows, not %d", n, rows)
		}
	}
	open(t, 3, "CREATE TABLE t (a INT NOT NULL)", "CREATE UNIQUE INDEX i ON t (a)").says(
		"INSERT INTO t VALUES (1), (2), (3), (4)", "3/3 code 191",
		"INSERT INTO t VALUES (1), (2)", "4/4 count 2",
		"INSERT INTO t VALUES (3), (4)", "5/5 code 191",
		"INSERT INTO t VALUES (3), (1)", "6/6 code 190", // that counts more
		"INSERT INTO t VALUES (3), (NULL)", "7/7 code 60",
		"INSERT INTO t VALUES (3)", "8/8 count 1",
		"BEGIN", "9/0", "DELETE FROM t WHERE a = 2", "9/0 count 1", "INSERT INTO t VALUES (4)", "9/0 count 1", "INSERT INTO t VALUES (5)", "9/0 code 191", "ROLLBACK", "9/0",
		"SELECT a FROM t", "10/9 [a] 1 2 3",
		"CREATE TABLE u (a INT)", "11/10", "INSERT INTO u VALUES (1), (2), (3)", "12/11 count 3", // each table for itself
	)
}

// TestP27_1Describe makes and drops tables and indexes, up to their limits.
func TestP27_1Describe(t *testing.T) {
	d := open(t, 9)
	for n := range api.MaxTables {
		d.ok(fmt.Sprint("CREATE TABLE t", n, " (a INT, b INT)"))
	}
	for n := range api.MaxIndexes {
		d.ok(fmt.Sprint("CREATE INDEX i", n, " ON t0 (a)"))
	}
	d.says(
		"CREATE TABLE u (a INT)", "29/29 code 191",
		"CREATE TABLE t0 (a INT)", "30/30 code 163", // that counts more
		"CREATE TABLE systables (a INT)", "31/31 code 163",
		"CREATE TABLE u (a INT, a INT)", "32/32 code 163",
		"CREATE INDEX j ON t0 (b)", "33/33 code 151",
		"CREATE INDEX i3 ON t1 (a)", "34/34 code 163",
		"CREATE INDEX j ON w (a)", "35/35 code 160",
		"CREATE INDEX j ON systables (name)", "36/36 code 165",
		"CREATE INDEX j ON t1 (z)", "37/37 code 161",
		"CREATE INDEX j ON t1 (a, a)", "38/38 code 163",
		"DROP INDEX i3", "39/39",
		"DROP INDEX i3", "40/40 code 164",
		"CREATE UNIQUE INDEX j ON t0 (b, a)", "41/41",
		"SELECT name, cols FROM sysindexes WHERE uniq", "42/42 [name cols] j,b,a",
		"DROP TABLE w", "43/43 code 160",
		"DROP TABLE t0", "44/44",
		"SELECT * FROM sysindexes", "45/45 [name tbl uniq cols]",
		"CREATE TABLE u (a INT)", "46/46",
		"CREATE TABLE w (a INT)", "47/47 code 191",
		"SELECT tbl, pos FROM syscolumns WHERE tbl = 'u'", "48/48 [tbl pos] u,0",
	)
}

// TestP27_1Early has queries of four sources of which parts of the conditions leave little: it doesn't go through all ways to pick rows.
func TestP27_1Early(t *testing.T) {
	d := open(t, 1000, "CREATE TABLE t (a INT)")
	for n := range 6 {
		text := "INSERT INTO t VALUES "
		for i := range 50 {
			text += fmt.Sprint("(", 50*n+i, "), ")
		}
		d.ok(strings.TrimSuffix(text, ", "))
	}
	for _, c := range [][2]string{
		{"ON x.a = w.a + 1 JOIN t AS y ON y.a = x.a + 1 JOIN t AS z ON z.a = y.a + 1 WHERE w.a > 290", "291,294 292,295 293,296 294,297 295,298 296,299"},
		{"ON TRUE JOIN t AS y ON TRUE JOIN t AS z ON TRUE WHERE w.a = 5 AND x.a = 6 AND y.a = 7 AND z.a < 3", "5,0 5,1 5,2"},
		{"ON TRUE JOIN t AS y ON TRUE JOIN t AS z ON TRUE WHERE NULL", ""},
		{"ON TRUE JOIN t AS y ON TRUE JOIN t AS z ON 1 / 0 = 1 WHERE w.a = 5 AND x.a < 0", ""},
	} {
		r := d.ok("SELECT w.a, z.a FROM t AS w JOIN t AS x " + c[0])
		var list []string
		for _, row := range r.Rows {
			list = append(list, valuesText(row))
		}
		told(t, c[0], strings.Join(list, " "), c[1])
	}
}
