package engine_test

import (
	"fmt"
	"testing"

	"hasp/api"
)

func TestP25_4Sessions(t *testing.T) {
	d := sample(t)
	d.told("idle", d.stand(), "0 0 0")
	d.submit(0, "BEGIN")
	d.told("ahead of the first step", d.stand(), "0w 0 0")
	d.ends(0, "5/0")
	d.told("begun", d.stand(), "5b 0 0")
	d.submit(0, "SELECT * FROM t")
	d.told("busy", d.stand(), "5bw 0 0")
	d.ends(0, "5/0 [a b] 1,10 2,20 3,30")
	d.submit(2, "DROP TABLE t")
	d.told("a statement alone", d.stand(), "5b 0 0w")
	d.Step(2)
	d.told("in its transaction", d.stand(), "5b 0 6w")
	d.told("waiting", d.last(2), "B")
	d.told("waiting", d.stand(), "5b 0 6w")
	d.ok(0, "COMMIT")
	d.told("ended", d.stand(), "0 0 6w")
	d.ends(2, "6/6")
	d.told("ended", d.stand(), "0 0 0")
	d.told("aborted", ring(t).stand(), "5bw 0a 0")
	r := ring(t)
	r.submit(1, "nonsense")
	r.told("aborted, and busy", r.stand(), "5bw 0aw 0")
	r.Step(1)
	r.told("aborted still", r.stand(), "5bw 0a 0")
	if n := len(open(t, 16, 1).Sessions()); n != 16 {
		t.Errorf("%d sessions", n)
	}
}

// TestP25_4Dump has what the tables hold, with what isn't committed.
func TestP25_4Dump(t *testing.T) {
	d := sample(t)
	for _, text := range []string{"BEGIN", "INSERT INTO u VALUES (7)", "UPDATE t SET b = 0 WHERE a = 2", "CREATE TABLE s (x TEXT)", "CREATE INDEX j ON u (c)"} {
		d.ok(1, text)
	}
	d.told("while it is open", d.content(), "s; t 1,10 2,0 3,30; u 7")
	d.told("descriptions", d.Dump()[2].Table, "{u [{c 2 true}] [{j [0] false}]}")
	d.ok(1, "ROLLBACK")
	d.told("undone", d.content(), "t 1,10 2,20 3,30; u")
	d.told("descriptions", d.Dump()[1].Table, "{u [{c 2 true}] []}")
	d.told("nothing", fmt.Sprint(open(t, 1, 1).Dump()), "[]")
}

// TestP25_4Locks has the locks that a transaction keeps up to its end.
func TestP25_4Locks(t *testing.T) {
	d := sample(t)
	d.ok(1, "BEGIN")
	d.told("locks", d.Locks(), "[]")
	d.ok(1, "SELECT * FROM u")
	d.told("locks", d.locked(5), "n/u S, t/u S")
	d.ok(1, "CREATE INDEX j ON u (c)")
	d.told("locks", d.locked(5), "i/j X, n/u X, t/syscolumns IX, t/sysindexes IX, t/systables IX, t/u S")
	// What a statement with an error has locked stays, too.
	d.says(1, "SELECT z FROM t", "5/0 code 161")
	d.told("locks", d.locked(5), "i/j X, n/t S, n/u X, t/syscolumns IX, t/sysindexes IX, t/systables IX, t/u S")
}

// TestP25_4Two tells the locks and the edges of several.
func TestP25_4Two(t *testing.T) {
	d := sample(t)
	d.ok(0, "BEGIN")
	d.ok(0, "SELECT * FROM u")
	d.ok(1, "BEGIN")
	d.ok(1, "SELECT * FROM u")
	d.waits(2, "DROP TABLE u")
	d.told("locks", d.Locks(), fmt.Sprintf("[{7 n/ %d} {5 n/u %d} {6 n/u %[2]d} {5 t/u %[2]d} {6 t/u %[2]d}]", api.X, api.S))
	d.told("edges", d.Edges(), "[{7 5} {7 6}]")
	d.ok(0, "COMMIT")
	d.told("edges", d.Edges(), "[{7 6}]")
	d.ok(1, "ROLLBACK")
	d.told("edges", d.Edges(), "[]")
	d.told("locks", d.Locks(), fmt.Sprintf("[{7 n/ %d} {7 n/u %[1]d}]", api.X))
}

// TestP25_4Ends holds that a transaction's end gives up all its locks, in each of the ways to end.
func TestP25_4Ends(t *testing.T) {
	for _, how := range []string{"COMMIT", "ROLLBACK", "break"} {
		d := sample(t)
		for _, text := range []string{"BEGIN", "SELECT * FROM t", "INSERT INTO t VALUES (9, 9)", "UPDATE u SET c = 1", "DROP INDEX i", "CREATE TABLE w (a INT)"} {
			d.ok(1, text)
		}
		if len(d.Locks()) < 8 {
			t.Errorf("locks %v", d.Locks())
		}
		if how == "break" {
			d.Break(1)
		} else {
			d.ok(1, how)
		}
		d.told(how, d.Locks(), "[]")
		d.told(how, d.stand(), "0 0 0")
	}
	d := sample(t)
	for _, text := range []string{"SELECT * FROM t", "SELECT z FROM t", "INSERT INTO t VALUES (1, 1)", "UPDATE t SET b = 0", "CREATE TABLE w (a INT)", "CREATE TABLE w (a INT)"} {
		d.do(1, text)
		d.told(text, d.Locks(), "[]")
	}
}
