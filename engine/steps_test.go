package engine_test

import (
	"strings"
	"testing"

	"hasp/api"
)

// locking are statements, and which locks the steps behind the first one ask for, up to the one that checks.
var locking = []struct {
	text  string
	locks string
	last  string // what the step that checks answers
}{
	{"SELECT * FROM t", "n/t S", "R"},
	{"SELECT * FROM u", "n/u S", "R"},
	{"SELECT x.a FROM t AS x JOIN u ON TRUE JOIN t AS y ON TRUE", "n/t S, n/u S", "R"},
	{"SELECT x.a FROM u JOIN t AS x ON TRUE", "n/u S, n/t S", "R"},
	{"SELECT tbl FROM syscolumns JOIN sysindexes AS x ON TRUE", "n/syscolumns S, n/sysindexes S", "D"}, // ambiguous
	{"SELECT name FROM systables", "n/systables S", "R"},
	{"SELECT * FROM w JOIN t ON TRUE", "n/w S, n/t S", "D"},
	{"INSERT INTO t VALUES (7, 7)", "n/t S", "R"},
	{"INSERT INTO t VALUES (7)", "n/t S", "D"},
	{"INSERT INTO w VALUES (7)", "n/w S", "D"},
	{"INSERT INTO systables VALUES ('x')", "n/systables S", "D"},
	{"UPDATE t SET b = 1", "n/t S", "R"},
	{"UPDATE u SET c = TRUE", "n/u S", "D"},
	{"DELETE FROM t", "n/t S", "R"},
	{"DELETE FROM sysindexes", "n/sysindexes S", "D"},
	{"CREATE TABLE w (a INT)", "n/ X, n/w X, t/systables IX, t/syscolumns IX, t/sysindexes IX", "D"},
	{"CREATE TABLE t (a INT)", "n/ X, n/t X, t/systables IX, t/syscolumns IX, t/sysindexes IX", "D"},
	{"CREATE TABLE systables (a INT)", "n/ X, n/systables X, t/systables IX, t/syscolumns IX, t/sysindexes IX", "D"},
	{"DROP TABLE t", "n/ X, n/t X, i/i X, i/a X, t/systables IX, t/syscolumns IX, t/sysindexes IX", "D"},
	{"DROP TABLE u", "n/ X, n/u X, t/systables IX, t/syscolumns IX, t/sysindexes IX", "D"},
	{"DROP TABLE w", "n/ X, n/w X, t/systables IX, t/syscolumns IX, t/sysindexes IX", "D"},
	{"DROP TABLE systables", "n/ X, n/systables X, t/systables IX, t/syscolumns IX, t/sysindexes IX", "D"},
	{"CREATE INDEX k ON u (c)", "n/u X, i/k X, t/systables IX, t/syscolumns IX, t/sysindexes IX", "D"},
	{"CREATE INDEX i ON u (c)", "n/u X, i/i X, t/systables IX, t/syscolumns IX, t/sysindexes IX", "D"},
	{"CREATE UNIQUE INDEX k ON w (c)", "n/w X, i/k X, t/systables IX, t/syscolumns IX, t/sysindexes IX", "D"},
	{"DROP INDEX a", "i/a X, n/t X, t/systables IX, t/syscolumns IX, t/sysindexes IX", "D"},
	{"DROP INDEX k", "i/k X, t/systables IX, t/syscolumns IX, t/sysindexes IX", "D"},
}

// TestP25_2Names goes through statements step by step: the first one locks nothing, each further one has one lock more, the one that checks none.
func TestP25_2Names(t *testing.T) {
	for _, c := range locking {
		d := sample(t)
		d.ok(0, "CREATE INDEX a ON t (b)")
		d.ok(2, "BEGIN") // another's number is not this one's
		d.submit(1, c.text)
		d.told("ahead of the first step", d.stand(), "0 0w 6b")
		names := strings.Split(c.locks, ", ")
		for n := range len(names) + 1 {
			if got := d.Step(1); got != api.Running {
				t.Fatalf("%s: step %d: %d", c.text, n, got)
			}
			d.told("behind the first step", d.stand(), "0 7w 6b")
			d.told(c.text, inOrder(d.locked(7)), inOrder(strings.Join(names[:n], ", ")))
		}
		state := d.Step(1)
		if c.last == "R" {
			d.told(c.text, inOrder(d.locked(7)), inOrder(c.locks))
			d.told(c.text, state, "1")
			d.told(c.text, d.last(1), "D")
		}
		d.told(c.text, d.stand(), "0 0 6b")
		d.told(c.text, d.newest().Seq, "6")
		d.told(c.text, d.Locks(), "[]")
	}
}

// inOrder turns about what stands between commas, so that locks can be held against each other.
func inOrder(s string) string {
	list := strings.Split(s, ", ")
	for i := range list {
		for j := range i {
			if list[i] < list[j] {
				list[i], list[j] = list[j], list[i]
			}
		}
	}
	return strings.Join(list, ", ")
}

// TestP25_2States has what the steps of statements answer, up to the reply.
func TestP25_2States(t *testing.T) {
	d := sample(t)
	for _, c := range [][2]string{
		{"nonsense", "D"}, {"COMMIT", "D"}, {"ROLLBACK", "D"}, {"BEGIN", "D"}, {"BEGIN", "D"}, {"nonsense", "D"}, {"COMMIT", "D"}, {"BEGIN", "D"}, {"ROLLBACK", "D"},
		{"CREATE TABLE w (a INT)", "RRRRRRD"}, {"CREATE INDEX w1 ON w (a)", "RRRRRRD"}, {"CREATE INDEX w2 ON w (a)", "RRRRRRD"}, {"DROP TABLE w", "RRRRRRRRD"},
		{"DROP INDEX i", "RRRRRRD"}, {"DROP INDEX i", "RRRRRD"}, {"SELECT z FROM t", "RRD"}, {"SELECT a FROM t JOIN w ON TRUE JOIN u ON TRUE JOIN v ON TRUE", "RRRRRD"},
	} {
		d.submit(1, c[0])
		d.told(c[0], d.steps(1), c[1])
		if d.Step(1) != api.Idle {
			t.Errorf("%s goes on", c[0])
		}
	}
	for _, s := range []int{0, 1, 2, 3, -1} {
		d.told("idle", d.steps(s), "I")
	}
}

// TestP25_2Blocked holds that a step does nothing while the wish isn't granted, and is done again when it is.
func TestP25_2Blocked(t *testing.T) {
	for _, c := range []struct{ first, second, steps, reply string }{
		{"DROP TABLE t", "SELECT a FROM t", "RB", "6/6 code 160"},                         // at the name
		{"CREATE TABLE w (a INT)", "CREATE TABLE v (a INT)", "RB", "6/6"},                 // at all names
		{"CREATE TABLE w (a INT)", "DROP TABLE w", "RB", "6/6"},                           // it sees what was made
		{"CREATE INDEX j ON t (b)", "CREATE INDEX j ON u (c)", "RRB", "6/6 code 163"},     // at the index's name
		{"CREATE INDEX j ON t (b)", "DROP INDEX j", "RB", "6/6"},                          // whose table is told then
		{"DROP INDEX i", "DROP INDEX i", "RB", "6/6 code 164"},                            // whose table is none then
		{"CREATE INDEX j ON t (b)", "DROP TABLE t", "RRB", "6/6"},                         // with the indexes as they are then
		{"SELECT * FROM systables", "CREATE TABLE w (a INT)", "RRRB", "6/6"},              // at the system tables' rows
		{"SELECT * FROM sysindexes", "DROP INDEX i", "RRRRRB", "6/6"},                     // the last of them
		{"CREATE TABLE w (a INT)", "SELECT * FROM systables", "RRRB", "6/6 [name] t u w"}, // in the plan
		{"UPDATE u SET c = 1", "INSERT INTO u VALUES (1)", "", "6/6 count 1"},
		{"UPDATE t SET b = 0 WHERE a = 1", "SELECT b FROM t WHERE a = 1", "", "6/6 [b] 0"},
	} {
		d := sample(t)
		d.ok(0, "BEGIN")
		d.ok(0, c.first)
		d.submit(1, c.second)
		if got := d.steps(1); got != c.steps && c.steps != "" || got[len(got)-1] != 'B' {
			t.Errorf("%s; %s: %s, not %s", c.first, c.second, got, c.steps)
			continue
		}
		before := d.all()
		for range 5 {
			if got := d.Step(1); got != api.Blocked {
				t.Errorf("%s: %d", c.second, got)
			}
		}
		d.told("nothing has happened", d.all(), before)
		d.told("what waits", d.Edges(), "[{6 5}]")
		d.ok(0, "COMMIT")
		d.told("what waits", d.Edges(), "[]")
		d.ends(1, c.reply)
		d.fine()
	}
}

// TestP25_2IndexesThen holds that the names of indexes are looked up when the table's name is locked, not ahead of it.
func TestP25_2IndexesThen(t *testing.T) {
	for _, how := range []string{"COMMIT", "ROLLBACK"} {
		d := sample(t)
		d.ok(0, "BEGIN")
		d.ok(0, "CREATE INDEX j ON t (b)")
		d.ok(0, "DROP INDEX i")
		d.waits(1, "DROP TABLE t")
		d.ok(0, how)
		for range 3 {
			d.Step(1)
		}
		name := "i/j"
		if how == "ROLLBACK" {
			name = "i/i"
		}
		d.told(how, d.locked(6), name+" X, n/ X, n/t X, t/systables IX")
		// Of an index: which table has it.
		d.Break(1)
		d.ok(0, "BEGIN")
		d.ok(0, "DROP INDEX "+name[2:])
		d.ok(0, "CREATE INDEX "+name[2:]+" ON u (c)")
		d.waits(1, "DROP INDEX "+name[2:])
		d.ok(0, how)
		d.Step(1)
		d.Step(1)
		d.told(how, d.locked(8), name+" X, n/"+map[string]string{"COMMIT": "u", "ROLLBACK": "t"}[how]+" X")
		d.ends(1, map[string]string{"COMMIT": "8/7", "ROLLBACK": "8/5"}[how])
	}
}

// TestP25_2Changed has a statement of which other statements change the meaning while it waits.
func TestP25_2Changed(t *testing.T) {
	d := sample(t)
	d.ok(0, "BEGIN")
	d.ok(0, "DROP TABLE t")
	d.ok(0, "CREATE TABLE t (z TEXT)")
	d.ok(0, "INSERT INTO t VALUES ('x')")
	d.waits(1, "SELECT * FROM t")
	d.waits(2, "SELECT a FROM t")
	d.ok(0, "COMMIT")
	d.ends(1, "6/6 [z] x")
	d.ends(2, "7/7 code 161")
}

// TestP25_2OthersGo lets a session go on while another waits.
func TestP25_2OthersGo(t *testing.T) {
	d := sample(t)
	d.ok(0, "BEGIN")
	d.ok(0, "UPDATE t SET b = 0 WHERE a = 1")
	d.waits(1, "SELECT b FROM t WHERE a = 1")
	d.says(2, "SELECT b FROM t WHERE a = 2", "7/5 [b] 20")
	d.says(2, "INSERT INTO u VALUES (7)", "8/6 count 1")
	d.says(0, "SELECT b FROM t WHERE a = 1", "5/0 [b] 0")
	d.told("it waits", d.Step(1), "2")
	d.says(0, "ROLLBACK", "5/0")
	d.ends(1, "6/7 [b] 10")
}
