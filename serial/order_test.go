package serial_test

import (
	"cmp"
	"fmt"
	"math/rand/v2"
	"slices"
	"testing"

	"hasp/api"
)

// TestP27_1Order has rows that no sort puts in order: they stand by their sources' rows' numbers, the first source's ahead.
func TestP27_1Order(t *testing.T) {
	d := open(t, 9, "CREATE TABLE t (a INT, b INT)", "CREATE UNIQUE INDEX i ON t (a)", "INSERT INTO t VALUES (5, 1), (3, 2), (9, 1), (1, 2)", "CREATE TABLE u (c INT)", "INSERT INTO u VALUES (8), (2)")
	for _, c := range [][2]string{
		{"SELECT a FROM t", "[a] 5 3 9 1"},
		{"SELECT a FROM t WHERE a > 0", "[a] 5 3 9 1"}, // an index has them in another order
		{"SELECT a FROM t WHERE a >= 3 AND a < 9", "[a] 5 3"},
		{"SELECT a, c FROM t JOIN u ON TRUE", "[a c] 5,8 5,2 3,8 3,2 9,8 9,2 1,8 1,2"},
		{"SELECT a, c FROM u JOIN t ON TRUE", "[a c] 5,8 3,8 9,8 1,8 5,2 3,2 9,2 1,2"},
		{"SELECT a, c FROM t JOIN u ON a > c", "[a c] 5,2 3,2 9,8 9,2"},
		{"SELECT x.a, y.a FROM t AS x JOIN t AS y ON x.b = y.b WHERE y.a < 9", "[a a] 5,5 3,3 3,1 9,5 1,3 1,1"},
		{"SELECT a FROM t ORDER BY b", "[a] 5 9 3 1"}, // rows alike by the sorts stand so, too
		{"SELECT a FROM t ORDER BY b DESC", "[a] 3 1 5 9"},
		{"SELECT a FROM t ORDER BY 7 DESC", "[a] 5 3 9 1"},
		{"SELECT a FROM t ORDER BY NULL", "[a] 5 3 9 1"},
		{"SELECT a, c FROM t JOIN u ON TRUE ORDER BY c, b", "[a c] 5,2 9,2 3,2 1,2 5,8 9,8 3,8 1,8"},
		{"SELECT a FROM t ORDER BY b, a DESC", "[a] 9 5 3 1"},
		{"SELECT a FROM t ORDER BY b DESC, a", "[a] 1 3 5 9"},
		{"SELECT b FROM t ORDER BY a", "[b] 2 2 1 1"}, // by what isn't answered
		{"SELECT name FROM systables", "[name] t u"},
	} {
		r := d.Do(c[0])
		r.Txn, r.Seq = 0, 0
		told(t, c[0], shown(r), "0/0 "+c[1])
	}
	// A row keeps its number whatever becomes of it, a new one gets a greater one, and one that went comes back under its own.
	d.ok("UPDATE t SET a = 10 - a")
	told(t, "changed", d.content(), "t 5,1 7,2 1,1 9,2; u 8 2")
	d.ok("DELETE FROM t WHERE a = 7")
	d.ok("INSERT INTO t VALUES (4, 4), (0, 0)")
	told(t, "gone, and new", d.content(), "t 5,1 1,1 9,2 4,4 0,0; u 8 2")
	d.ok("BEGIN")
	d.ok("DELETE FROM t WHERE a < 5")
	d.ok("INSERT INTO t VALUES (2, 2)")
	told(t, "not committed", d.content(), "t 5,1 9,2 2,2; u 8 2")
	told(t, "not committed", d.ok("SELECT a FROM t").Rows, "[[{2 5 }] [{2 9 }] [{2 2 }]]")
	d.ok("ROLLBACK")
	told(t, "back again", d.content(), "t 5,1 1,1 9,2 4,4 0,0; u 8 2")
}

// TestP27_1OrderSystem has the order of the system tables' rows.
func TestP27_1OrderSystem(t *testing.T) {
	d := open(t, 9, "CREATE TABLE v (a INT, b INT)", "CREATE TABLE t (a INT)", "CREATE TABLE u (a INT)")
	names := func(want string) {
		t.Helper()
		r := d.ok("SELECT name FROM systables")
		r.Txn, r.Seq = 0, 0
		told(t, "the tables", shown(r), "0/0 [name] "+want)
	}
	names("v t u")
	d.ok("DROP TABLE v")
	d.ok("CREATE TABLE v (a INT)")
	names("t u v")
	d.ok("BEGIN")
	d.ok("DROP TABLE t")
	names("u v")
	d.ok("ROLLBACK")
	names("t u v")
	d.ok("CREATE INDEX j ON u (a)")
	d.ok("CREATE INDEX i ON t (a)")
	r := d.ok("SELECT t.name, i.name FROM systables AS t JOIN sysindexes AS i ON t.name = i.tbl")
	told(t, "with their indexes", r.Rows, "[[{4 0 t} {4 0 i}] [{4 0 u} {4 0 j}]]")
}

// TestP27_1OrderRandom has tables in which a column numbers the rows as they came: by it any query's rows stand in order, as far as no sort says otherwise.
func TestP27_1OrderRandom(t *testing.T) {
	g := rand.New(rand.NewPCG(1, 27))
	rows, ties := 0, 0
	for range 40 {
		d := open(t, 12, "CREATE TABLE t (n INT, a INT, b INT)", "CREATE INDEX i ON t (a, n)", "CREATE TABLE u (n INT, a INT, b INT)", "CREATE UNIQUE INDEX j ON u (b, n)")
		newest := 0
		for range 150 {
			table := []string{"t", "u"}[g.IntN(2)]
			n := g.IntN(7)
			switch g.IntN(9) {
			case 0:
				d.Do("BEGIN")
			case 1:
				d.Do([]string{"COMMIT", "ROLLBACK"}[g.IntN(2)])
			case 2, 3:
				newest += 2
				d.Do(fmt.Sprintf("INSERT INTO %s VALUES (%d, %d, %d), (%d, %d, %d)", table, newest, n, g.IntN(3), newest+1, g.IntN(7), n))
			case 4:
				d.ok(fmt.Sprintf("UPDATE %s SET a = %d - a WHERE b < %d", table, g.IntN(7), n))
			case 5:
				d.ok(fmt.Sprintf("DELETE FROM %s WHERE a = %d", table, n))
			default:
				other := []string{"t", "u"}[g.IntN(2)]
				where := fmt.Sprintf([]string{"x.a < %d", "x.b <= y.a AND y.a > %d", "x.a = y.b AND y.n > %d", "%d >= 0"}[g.IntN(4)], n)
				text := "SELECT x.n, y.n, x.a FROM " + table + " AS x JOIN " + other + " AS y ON " + where
				r := d.ok(text)
				if !slices.IsSortedFunc(r.Rows, byNumbers) {
					t.Fatalf("%s: %v", text, r.Rows)
				}
				sorted := d.ok(text + " ORDER BY x.a DESC").Rows
				slices.SortStableFunc(r.Rows, func(a, b []api.Value) int { return cmp.Compare(b[2].Num, a[2].Num) })
				if fmt.Sprint(sorted) != fmt.Sprint(r.Rows) {
					t.Fatalf("%s, sorted: %v, not %v", text, sorted, r.Rows)
				}
				rows += len(sorted)
				for i := 1; i < len(sorted); i++ {
					if sorted[i][2] == sorted[i-1][2] {
						ties++
					}
				}
			}
			for _, x := range d.Dump() {
				if !slices.IsSortedFunc(x.Rows, func(a, b []api.Value) int { return cmp.Compare(a[0].Num, b[0].Num) }) {
					t.Fatalf("%s: %v", x.Table.Name, x.Rows)
				}
			}
		}
	}
	if rows < 5000 || ties < 1000 {
		t.Errorf("%d rows, %d alike", rows, ties)
	}
}

// byNumbers compares rows by the first two columns.
func byNumbers(a, b []api.Value) int {
	return cmp.Or(cmp.Compare(a[0].Num, b[0].Num), cmp.Compare(a[1].Num, b[1].Num))
}
