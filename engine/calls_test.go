package engine_test

import (
	"fmt"
	"math"
	"strings"
	"testing"

	"hasp/api"
	"hasp/engine"
)

func TestP25_1New(t *testing.T) {
	for _, c := range []struct {
		sessions, rows int
		code           api.Errno
	}{
		{1, 1, api.OK}, {16, 1, api.OK}, {1, 1000, api.OK}, {16, 1000, api.OK}, {3, 7, api.OK},
		{0, 1, api.ErrArg}, {-1, 1, api.ErrArg}, {17, 1, api.ErrArg}, {1, 0, api.ErrArg}, {1, -1, api.ErrArg}, {1, 1001, api.ErrArg}, {0, 0, api.ErrArg}, {17, 1001, api.ErrArg},
		{math.MaxInt, 1, api.ErrArg}, {math.MinInt, 1, api.ErrArg}, {1, math.MaxInt, api.ErrArg}, {1, math.MinInt, api.ErrArg}, {1 << 32, 1, api.ErrArg}, {1, 1 << 32, api.ErrArg}, {1 + 1<<32, 1, api.ErrArg},
	} {
		e, code := engine.New(api.Config{Sessions: c.sessions, Rows: c.rows})
		if code != c.code || (e == nil) != (code != api.OK) {
			t.Errorf("New(%d, %d) = %v, %d", c.sessions, c.rows, e != nil, code)
			continue
		}
		if e == nil {
			continue
		}
		d := &desk{t, e}
		d.told("how it begins", d.all(), fmt.Sprint("[] [", strings.TrimSpace(strings.Repeat("{0 false false false} ", c.sessions)), "] [] [] [] true"))
	}
}

// TestP25_1Rows fills tables up to the greatest number of rows.
func TestP25_1Rows(t *testing.T) {
	for _, rows := range []int{1, 2, 3, 1000} {
		d := open(t, 1, rows, "CREATE TABLE t (a INT)")
		for n := 0; n < rows; {
			some := min(rows-n, 50)
			d.ok(0, "INSERT INTO t VALUES (1)"+strings.Repeat(", (1)", some-1))
			n += some
		}
		if r := d.do(0, "INSERT INTO t VALUES (1)"); r.Code != api.ErrFull {
			t.Errorf("%d rows: %d", rows, r.Code)
		}
		if n := len(d.Dump()[0].Rows); n != rows {
			t.Errorf("%d rows, not %d", n, rows)
		}
	}
}

// outside are numbers of no session, where there are so many.
func outside(sessions int) []int {
	return []int{-1, sessions, sessions + 1, api.MaxSession, math.MaxInt, math.MinInt, 1 << 32, -1 << 32}
}

func TestP25_1NoSession(t *testing.T) {
	for _, sessions := range []int{1, 3, 16} {
		d := open(t, sessions, 5, "CREATE TABLE t (a INT)")
		before := d.all()
		for _, n := range outside(sessions) {
			if n == api.MaxSession && sessions > n {
				continue
			}
			if d.Submit(n, "BEGIN") || d.Break(n) || d.Step(n) != api.Idle {
				t.Errorf("of %d sessions there is one %d", sessions, n)
			}
		}
		d.told("nothing has happened", d.all(), before)
		d.says(sessions-1, "SELECT * FROM t", "2/2 [a]")
	}
}

func TestP25_1Submit(t *testing.T) {
	d := sample(t)
	d.submit(1, "SELECT a FROM t WHERE a = 2")
	for _, n := range []string{"", "R", "RR", "RRR"} {
		for range len(n) {
			d.Step(1)
		}
		before := d.all()
		if d.Submit(1, "SELECT c FROM u") || d.Submit(1, "") || d.Submit(1, "ROLLBACK") {
			t.Error("a busy session takes another statement")
		}
		d.told("nothing has happened", d.all(), before)
	}
	d.ends(1, "5/5 [a] 2")
	d.told("the text", d.newest().Text, "SELECT a FROM t WHERE a = 2")
	if d.Step(1) != api.Idle {
		t.Error("it goes on")
	}
	d.says(1, "SELECT c FROM u", "6/6 [c]")
	if !d.Submit(2, "nonsense") || !d.Submit(0, "BEGIN") {
		t.Error("others can't submit")
	}
	// What waits is busy, too.
	d.ends(0, "7/0")
	d.ok(0, "UPDATE t SET b = 0")
	d.waits(1, "SELECT * FROM t")
	if d.Submit(1, "SELECT * FROM u") {
		t.Error("a session that waits takes another statement")
	}
}

// TestP25_1SubmitText submits texts that can't be read: each is taken, and replied with its error.
func TestP25_1SubmitText(t *testing.T) {
	d := sample(t)
	for _, c := range []struct {
		text string
		code api.Errno
	}{
		{"", api.ErrSyntax}, {" ", api.ErrSyntax}, {"\x00", api.ErrSign}, {"\xff\xfe", api.ErrSign}, {"SELECT 'a", api.ErrQuote}, {"SELECT a FROM t;", api.ErrSign}, {"BEGIN BEGIN", api.ErrSyntax},
		{strings.Repeat(" ", api.MaxSql+1), api.ErrLong}, {strings.Repeat("x", api.MaxName+1), api.ErrWord}, {"SELECT a FROM", api.ErrSyntax},
	} {
		r := d.do(2, c.text)
		if r.Code != c.code || r.Text != c.text || r.Txn != 0 || r.Seq != 0 {
			t.Errorf("%q: %v", c.text, r)
		}
	}
	d.told("how they stand", d.stand(), "0 0 0")
	d.told("the transactions' numbers", d.do(1, "BEGIN").Txn, "5")
}

func TestP25_1BreakIdle(t *testing.T) {
	d := sample(t)
	before := d.all()
	for n := range 3 {
		if !d.Break(n) || !d.Break(n) {
			t.Errorf("Break(%d)", n)
		}
	}
	d.told("nothing has happened", d.all(), before)
	d.says(1, "SELECT a FROM t", "5/5 [a] 1 2 3")
}

// TestP25_1BreakWithin breaks a statement off behind each of its steps.
func TestP25_1BreakWithin(t *testing.T) {
	for _, text := range []string{
		"UPDATE t SET a = a + 1, b = 7", "INSERT INTO t VALUES (7, 7)", "DELETE FROM t WHERE a > 1", "SELECT * FROM t JOIN u ON TRUE",
		"CREATE TABLE w (a INT)", "DROP TABLE t", "CREATE INDEX j ON t (b)", "DROP INDEX i", "nonsense", "BEGIN",
	} {
		for n := range 200 {
			d := sample(t)
			d.submit(1, text)
			left := n
			for left > 0 && d.Step(1) == api.Running {
				left--
			}
			if left > 0 {
				break
			}
			replies := len(d.Replies(0))
			if !d.Break(1) {
				t.Errorf("%s: Break is false", text)
			}
			if d.Step(1) != api.Idle || len(d.Replies(0)) != replies || len(d.Locks()) != 0 || d.stand() != "0 0 0" || d.content() != "t 1,10 2,20 3,30; u" || !d.Sound() {
				t.Errorf("%s, broken off behind %d steps: %s", text, n, d.all())
			}
			if r := d.do(0, "SELECT * FROM sysindexes"); len(r.Rows) != 1 {
				t.Errorf("%s: sysindexes %v", text, r.Rows)
			}
			d.ok(1, "UPDATE t SET b = 1")
		}
	}
}

// TestP25_1BreakBegun breaks off what BEGIN began: all that was done is undone, and those that waited go on.
func TestP25_1BreakBegun(t *testing.T) {
	d := sample(t)
	for _, text := range []string{"BEGIN", "UPDATE t SET a = a + 1", "INSERT INTO u VALUES (1)", "CREATE TABLE w (a INT)", "DROP INDEX i", "DELETE FROM t WHERE b = 20"} {
		d.ok(1, text)
	}
	d.waits(0, "SELECT * FROM t ORDER BY a")
	d.waits(2, "SELECT * FROM w")
	n := len(d.Replies(0))
	if !d.Break(1) || len(d.Replies(0)) != n {
		t.Error("Break")
	}
	d.told("what the tables hold", d.content(), "t 1,10 2,20 3,30; u")
	d.told("how they stand", d.stand(), "6w 0 7w")
	d.told("who waits", d.Edges(), "[]")
	d.ends(0, "6/5 [a b] 1,10 2,20 3,30")
	d.ends(2, "7/6 code 160")
	d.says(1, "COMMIT", "0/0 code 250")
	d.told("locks", d.Locks(), "[]")
	d.fine()
}

// TestP25_1BreakWaiting breaks a session off that waits: who stood behind its wish goes on.
func TestP25_1BreakWaiting(t *testing.T) {
	d := sample(t)
	d.ok(0, "BEGIN")
	d.ok(0, "SELECT * FROM t")
	d.waits(1, "DROP TABLE t")
	d.waits(2, "SELECT a FROM t")
	d.told("who waits", d.Edges(), "[{6 5} {7 6}]")
	d.Break(1)
	d.told("who waits", d.Edges(), "[]")
	d.ends(2, "7/5 [a] 1 2 3")
	d.told("how they stand", d.stand(), "5b 0 0")
	// In a transaction that was begun, too.
	d.ok(1, "BEGIN")
	d.ok(1, "INSERT INTO u VALUES (5)")
	d.waits(1, "DROP TABLE t")
	d.Break(1)
	d.told("what the tables hold", d.content(), "t 1,10 2,20 3,30; u")
	d.told("how they stand", d.stand(), "5b 0 0")
	d.told("the locks", d.locked(8), "")
}

// TestP25_1BreakAborted lets an aborted session be so no more.
func TestP25_1BreakAborted(t *testing.T) {
	for _, busy := range []bool{false, true} {
		d := ring(t)
		d.told("how they stand", d.stand(), "5bw 0a 0")
		if busy {
			d.submit(1, "SELECT a FROM t")
		}
		n := len(d.Replies(0))
		if !d.Break(1) || len(d.Replies(0)) != n {
			t.Error("Break")
		}
		d.told("how they stand", d.stand(), "5bw 0 0")
		d.says(1, "ROLLBACK", "0/0 code 250")
		d.says(1, "SELECT c FROM u", "7/5 [c]")
	}
}

// ring gives two transactions that have met in a ring, of which the younger, of the session 1, was the victim.
func ring(t *testing.T) *desk {
	t.Helper()
	d := sample(t)
	d.ok(0, "BEGIN")
	d.ok(1, "BEGIN")
	d.ok(0, "UPDATE t SET b = 1 WHERE a = 1")
	d.ok(1, "UPDATE t SET b = 2 WHERE a = 2")
	d.waits(0, "UPDATE t SET b = 3 WHERE a = 2")
	d.says(1, "UPDATE t SET b = 4 WHERE a = 1", "6/0 code 251")
	return d
}
