package engine_test

import (
	"fmt"
	"slices"
	"strings"
	"testing"

	"hasp/api"
)

// TestP25_5Examples has the examples of the whole that need one session.
func TestP25_5Examples(t *testing.T) {
	open(t, 1, 3).play(
		line{0, "CREATE TABLE t (a INT NOT NULL, b REAL)", "1/1"},
		line{0, "SELECT * FROM systables", "2/2 [name] t"},
		line{0, "INSERT INTO t VALUES (1, 0.5), (2, NAN), (3, - INFINITY)", "3/3 count 3"},
		line{0, "SELECT a FROM t ORDER BY b", "4/4 [a] 3 1 2"},
		line{0, "SELECT a FROM t WHERE b > 0.0 AND 1 / (a - 2) < 5", "5/5 code 32"},
		line{0, "SELECT a FROM t WHERE b > 0.0 AND 1 / (a - 2) < 5 AND a <> 2", "6/6 [a] 1"},
		line{0, "CREATE UNIQUE INDEX i ON t (a)", "7/7"},
		line{0, "DELETE FROM t WHERE a = 9", "8/8"},
		line{0, "UPDATE t SET a = a + 1", "9/9 count 3"},
		line{0, "INSERT INTO t VALUES (2, NULL)", "10/10 code 190"},
		line{0, "SELECT a FROM", "0/0 code 130"},
		line{0, "SELECT z FROM t", "11/11 code 161"},
		line{0, "SELECT a + b FROM t", "12/12 code 30"},
		line{0, "INSERT INTO t VALUES (9, NULL)", "13/13 code 191"},
		line{0, "BEGIN", "14/0"},
		line{0, "DELETE FROM t WHERE a = 2", "14/0 count 1"},
		line{0, "INSERT INTO t VALUES (9, NULL)", "14/0 count 1"},
		line{0, "INSERT INTO t VALUES (1, NULL)", "14/0 code 191"},
		line{0, "COMMIT", "14/14"},
		line{0, "SELECT a FROM t ORDER BY a DESC", "15/15 [a] 9 4 3"},
	)
}

// TestP25_5Tables goes to the greatest number of tables.
func TestP25_5Tables(t *testing.T) {
	d := open(t, 2, 5)
	for n := range 20 {
		d.ok(0, fmt.Sprint("CREATE TABLE t", n, " (a INT)"))
	}
	d.play(
		line{0, "CREATE TABLE u (a INT)", "21/21 code 191"},
		line{0, "CREATE TABLE t0 (a INT)", "22/22 code 163"}, // that counts more
		line{0, "CREATE TABLE systables (a INT)", "23/23 code 163"},
		line{0, "CREATE TABLE u (a INT, a INT)", "24/24 code 163"},
		line{0, "CREATE INDEX i ON t3 (a)", "25/25"},
		line{0, "BEGIN", "26/0"},
		line{0, "DROP TABLE t7", "26/0"},
		line{0, "CREATE TABLE u (a INT)", "26/0"},
		line{0, "CREATE TABLE w (a INT)", "26/0 code 191"},
	)
	d.waits(1, "CREATE TABLE w (a INT)")
	d.says(0, "ROLLBACK", "26/0")
	d.ends(1, "27/26 code 191")
	d.says(0, "DROP TABLE t19", "28/27")
	d.says(1, "CREATE TABLE w (a INT)", "29/28")
	d.says(1, "CREATE TABLE x (a INT)", "30/29 code 191")
	if n := len(d.Dump()); n != 20 {
		t.Errorf("%d tables", n)
	}
}

// TestP25_5Indexes goes to the greatest number of indexes, and makes and drops with errors.
func TestP25_5Indexes(t *testing.T) {
	d := open(t, 1, 9, "CREATE TABLE t (a INT, b INT)", "CREATE TABLE u (a INT)", "INSERT INTO t VALUES (1, 1), (1, 2), (NULL, 3), (NULL, 4)")
	for n := range 8 {
		d.ok(0, fmt.Sprint("CREATE INDEX i", n, " ON t (a)"))
	}
	d.play(
		line{0, "CREATE INDEX j ON t (b)", "12/12 code 151"},
		line{0, "CREATE INDEX i3 ON u (a)", "13/13 code 163"},
		line{0, "CREATE INDEX j ON w (a)", "14/14 code 160"},
		line{0, "CREATE INDEX j ON systables (name)", "15/15 code 165"},
		line{0, "CREATE INDEX j ON u (z)", "16/16 code 161"},
		line{0, "DROP INDEX i3", "17/17"},
		line{0, "DROP INDEX i3", "18/18 code 164"},
		line{0, "CREATE UNIQUE INDEX j ON t (a)", "19/19 code 190"},
		line{0, "CREATE UNIQUE INDEX j ON t (b, a)", "20/20"},
		line{0, "INSERT INTO t VALUES (1, 2)", "21/21 code 190"},
		line{0, "SELECT name, cols FROM sysindexes WHERE uniq", "22/22 [name cols] j,b,a"},
		line{0, "DROP TABLE systables", "23/23 code 165"},
		line{0, "DROP TABLE w", "24/24 code 160"},
	)
	d.submit(0, "DROP TABLE t")
	d.told("the steps", d.steps(0), strings.Repeat("R", 14)+"D") // two names, eight indexes, three system tables
	d.told("what is left", d.content(), "u")
	d.says(0, "SELECT * FROM sysindexes", "26/26 [name tbl uniq cols]")
	if got := len(d.newest().Rows); got != 0 {
		t.Errorf("%d rows", got)
	}
}

// TestP25_5Undone rolls statements of all kinds back.
func TestP25_5Undone(t *testing.T) {
	d := sample(t)
	before := fmt.Sprint(d.Dump())
	d.ok(0, "BEGIN")
	for _, text := range []string{
		"UPDATE t SET a = a + 1", "DELETE FROM t WHERE a = 2", "INSERT INTO t VALUES (7, 7)", "DROP INDEX i", "CREATE INDEX k ON t (b)", "INSERT INTO t VALUES (7, 7)", "DROP TABLE u", "CREATE TABLE u (x TEXT, y BOOL)",
		"INSERT INTO u VALUES ('x', TRUE)", "CREATE UNIQUE INDEX i ON u (y, x)", "DROP TABLE t", "CREATE TABLE w (a INT)", "CREATE TABLE t (a INT)", "INSERT INTO t VALUES (1)",
	} {
		d.ok(0, text)
		d.fine()
	}
	d.told("ahead of the end", d.content(), "t 1; u x,1; w")
	d.ok(0, "ROLLBACK")
	d.told("behind it", d.Dump(), before)
	d.says(1, "SELECT a FROM t WHERE a = 2", "6/5 [a] 2")
	d.fine()
}

// TestP25_6Phantom is an example of the whole: what was read stays as it was, what isn't there yet too.
func TestP25_6Phantom(t *testing.T) {
	for _, ahead := range [][]string{nil, {"CREATE UNIQUE INDEX i ON t (a)"}, {"CREATE INDEX i ON t (b, a)"}} {
		d := open(t, 2, 9, "CREATE TABLE t (a INT NOT NULL, b REAL)", "INSERT INTO t VALUES (2, 0.5), (3, NAN), (4, NULL)")
		for _, text := range ahead {
			d.ok(0, text)
		}
		d.ok(0, "BEGIN")
		first := saidText(d.ok(0, "SELECT a FROM t WHERE a > 3"))
		d.waits(1, "INSERT INTO t VALUES (9, 1.0)")
		d.told("the same", saidText(d.ok(0, "SELECT a FROM t WHERE a > 3")), first)
		seq := d.ok(0, "COMMIT").Seq
		d.told("it goes on", d.last(1), "D")
		if r := d.newest(); r.Code != api.OK || r.Seq != seq+1 {
			t.Errorf("%v", r)
		}
	}
}

// TestP25_6Drop is an example of the whole: a table that was dropped comes back.
func TestP25_6Drop(t *testing.T) {
	d := sample(t)
	d.ok(0, "BEGIN")
	d.ok(0, "DROP TABLE t")
	d.waits(1, "SELECT * FROM t ORDER BY a")
	d.waits(2, "SELECT name FROM systables")
	d.ok(0, "ROLLBACK")
	d.ends(1, "6/5 [a b] 1,10 2,20 3,30")
	d.told("it goes on", d.last(2), "D")
	d.told("the names", inAnyOrder(d.newest().Rows), `"[{4 0 t}]" "[{4 0 u}]"`)
}

// TestP25_6Full has two that fill a table: the second waits for what the first one does, and takes no room that may be wanted back.
func TestP25_6Full(t *testing.T) {
	for how, want := range map[string]string{"COMMIT": "6/6 count 1", "ROLLBACK": "6/5 code 191"} {
		d := open(t, 2, 3, "CREATE TABLE t (a INT)", "CREATE UNIQUE INDEX i ON t (a)", "INSERT INTO t VALUES (1), (2)", "INSERT INTO t VALUES (3)")
		d.ok(0, "BEGIN")
		d.ok(0, "DELETE FROM t WHERE a = 2")
		d.waits(1, "INSERT INTO t VALUES (9)")
		d.ok(0, how)
		d.ends(1, want)
	}
	for how, want := range map[string]string{"COMMIT": "5/5 code 191", "ROLLBACK": "5/4 count 1"} {
		d := open(t, 2, 3, "CREATE TABLE t (a INT)", "CREATE UNIQUE INDEX i ON t (a)", "INSERT INTO t VALUES (1), (2)")
		d.ok(0, "BEGIN")
		d.ok(0, "INSERT INTO t VALUES (7)")
		d.waits(1, "INSERT INTO t VALUES (0)")
		d.ok(0, how)
		d.ends(1, want)
	}
}

// TestP25_8NotForEver has many that wait for one thing: each goes on when those that it waits for have ended, in the order in which they came.
func TestP25_8NotForEver(t *testing.T) {
	for _, how := range []string{"COMMIT", "ROLLBACK", "break"} {
		d := open(t, 16, 9, "CREATE TABLE t (a INT)")
		d.ok(0, "BEGIN")
		d.ok(0, "DELETE FROM t")
		for n := 1; n < 16; n++ {
			d.ok(n, "BEGIN")
			d.waits(n, []string{"INSERT INTO t VALUES (1)", "SELECT * FROM t", "DROP TABLE t", "CREATE INDEX i ON t (a)"}[n%4])
		}
		order := map[string][]int{} // the sessions, by the statements' texts
		for range 5000 {
			for n := range 16 {
				if s := d.Sessions()[n]; s.Busy || s.Txn == 0 && !s.Aborted {
					d.Step(n)
				} else if how == "break" {
					d.Break(n)
				} else {
					d.do(n, map[bool]string{false: how, true: "ROLLBACK"}[s.Aborted])
				}
			}
		}
		d.told("how they stand", d.stand(), strings.TrimSpace(strings.Repeat("0 ", 16)))
		for _, r := range d.Replies(0) {
			if r.Code != api.OK && how != "COMMIT" {
				t.Errorf("%s: %v", how, r)
			}
			order[r.Text] = append(order[r.Text], r.Session)
		}
		for _, text := range []string{"INSERT INTO t VALUES (1)", "DROP TABLE t", "CREATE INDEX i ON t (a)"} {
			if list := order[text]; len(list) < 3 || !slices.IsSorted(list) {
				t.Errorf("%s: %s in the order %v", how, text, list)
			}
		}
	}
}
