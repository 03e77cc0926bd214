package engine_test

import (
	"fmt"
	"strings"
	"testing"

	"hasp/api"
)

// hold lets a session begin, and change one row of t.
func (d *desk) hold(session int, row int) {
	d.Helper()
	d.ok(session, "BEGIN")
	d.ok(session, fmt.Sprint("UPDATE t SET b = 0 WHERE a = ", row))
}

func wants(row int) string { return fmt.Sprint("UPDATE t SET b = 1 WHERE a = ", row) }

// rowsApart gives sessions over t (a, b), whose rows are locked one by one; each of the first so many has begun and changed the row of its number.
func rowsApart(t *testing.T, sessions, begun int) *desk {
	t.Helper()
	d := open(t, sessions, 100, "CREATE TABLE t (a INT, b INT)", "CREATE UNIQUE INDEX i ON t (a)")
	for n := range sessions {
		d.ok(0, fmt.Sprintf("INSERT INTO t VALUES (%d, 0)", 10*n))
	}
	for n := range begun {
		d.hold(n, 10*n)
	}
	return d
}

// TestP25_7Example is the chapter's.
func TestP25_7Example(t *testing.T) {
	d := sample(t)
	d.hold(0, 1)
	d.hold(1, 2)
	d.waits(0, wants(2))
	d.told("who waits", d.Edges(), "[{5 6}]")
	d.submit(1, wants(1))
	d.told("the victim's last step", d.last(1), "D")
	d.told("its reply", shown(d.newest()), "6/0 code 251")
	d.told("how they stand", d.stand(), "5bw 0a 0")
	d.told("who waits", d.Edges(), "[]")
	d.told("its locks", d.locked(6), "")
	d.told("its change is undone", d.content(), "t 1,0 2,20 3,30; u")
	d.ends(0, "5/0 count 1")
	d.says(1, "SELECT a FROM t", "0/0 code 252")
	d.says(1, "ROLLBACK", "0/0")
	d.says(0, "COMMIT", "5/5")
	d.told("what the tables hold", d.content(), "t 1,0 2,1 3,30; u")
	d.fine()
}

// TestP25_7Other lets the older one close the ring: the younger, which waits, is the victim, and the step's own session goes on.
func TestP25_7Other(t *testing.T) {
	d := sample(t)
	d.hold(0, 1)
	d.hold(1, 2)
	d.waits(1, wants(1))
	n := len(d.Replies(0))
	d.submit(0, wants(2))
	d.told("it has to wait", d.last(0), "B")
	d.told("replies", len(d.Replies(n)), "1")
	d.told("the victim", shown(d.newest()), "6/0 code 251")
	d.told("its session", d.newest().Session, "1")
	d.told("how they stand", d.stand(), "5bw 0a 0")
	d.told("who waits", d.Edges(), "[]")
	if d.Step(1) != api.Idle {
		t.Error("the victim is busy")
	}
	d.ends(0, "5/0 count 1")
	d.says(1, "COMMIT", "0/0 code 252")
}

// reading reads the row 20, then the row 0.
const reading = "SELECT y.b FROM t AS x JOIN t AS y ON y.a = x.b WHERE x.a = 20"

// TestP25_7Alone has a victim whose transaction was for one statement alone: it is rolled back, and its session isn't aborted.
func TestP25_7Alone(t *testing.T) {
	d := rowsApart(t, 3, 1)
	txn := d.Sessions()[0].Txn
	d.waits(2, reading)
	d.told("who waits", d.Edges(), fmt.Sprintf("[{%d %d}]", txn+1, txn))
	d.submit(0, wants(20))
	d.told("it closes a ring", d.last(0), "B")
	d.told("the victim", shown(d.newest()), fmt.Sprintf("%d/0 code 251", txn+1))
	d.told("how they stand", d.stand(), fmt.Sprintf("%dbw 0 0", txn))
	d.ends(0, fmt.Sprintf("%d/0 count 1", txn))
	d.says(0, "COMMIT", fmt.Sprintf("%d/%d", txn, txn))
	d.says(2, reading, fmt.Sprintf("%d/%d [b]", txn+2, txn+1))
	d.says(2, "BEGIN", fmt.Sprintf("%d/0", txn+3))
}

// TestP25_7AloneCloses has a statement alone that closes the ring itself.
func TestP25_7AloneCloses(t *testing.T) {
	d := rowsApart(t, 3, 1)
	txn := d.Sessions()[0].Txn
	d.submit(2, reading)
	for !strings.Contains(d.locked(txn+1), "k/t/i/20#3 S, n/t S, r/t/3 S") {
		if d.Step(2) != api.Running {
			t.Fatalf("it doesn't read the row 20: %s", d.locked(txn+1))
		}
	}
	d.waits(0, wants(20))
	d.told("it is the victim", d.last(2), "D")
	d.told("the reply", shown(d.newest()), fmt.Sprintf("%d/0 code 251", txn+1))
	d.told("how they stand", d.stand(), fmt.Sprintf("%dbw 0 0", txn))
	d.ends(0, fmt.Sprintf("%d/0 count 1", txn))
}

// TestP25_7AloneOlder has a statement alone that is older than what BEGIN began: that one is the victim.
func TestP25_7AloneOlder(t *testing.T) {
	d := rowsApart(t, 3, 0)
	d.submit(2, reading)
	d.Step(2)
	txn := d.Sessions()[2].Txn
	d.hold(0, 0)
	d.told("it waits", d.last(2), "B")
	d.says(0, wants(20), fmt.Sprintf("%d/0 code 251", txn+1))
	d.told("how they stand", d.stand(), fmt.Sprintf("0a 0 %dw", txn))
	d.ends(2, fmt.Sprintf("%d/%d [b] 0", txn, txn))
}

// TestP25_7Many closes rings of many, with the victim at each place.
func TestP25_7Many(t *testing.T) {
	for size := 2; size <= 16; size++ {
		for last := range size {
			d := rowsApart(t, 16, size)
			first := d.Sessions()[0].Txn
			for n := range size {
				if n != last {
					d.waits(n, wants((n+1)%size*10))
				}
			}
			d.submit(last, wants((last+1)%size*10))
			want := "B"
			if last == size-1 {
				want = "D"
			}
			d.told("the step that closes it", d.last(last), want)
			d.told("the youngest is the victim", shown(d.newest()), fmt.Sprintf("%d/0 code 251", first+size-1))
			d.told("its session", d.newest().Session, fmt.Sprint(size-1))
			if len(d.Edges()) != size-2 {
				t.Errorf("of %d, closed by %d: %v", size, last, d.Edges())
			}
			// The others go on, one behind the other, from the one that waited for the victim.
			for n := size - 2; n >= 0; n-- {
				if got := d.last(n); got != "D" || d.newest().Code != api.OK {
					t.Fatalf("of %d, closed by %d: %d: %s, %v", size, last, n, got, d.newest())
				}
				d.ok(n, "COMMIT")
			}
			d.told("the locks", d.Locks(), "[]")
		}
	}
}

// TestP25_7Two closes two rings by one wish: both other transactions are victims, the lesser number's ring first.
func TestP25_7Two(t *testing.T) {
	d := open(t, 4, 9, "CREATE TABLE t (a INT)", "CREATE TABLE u (a INT)")
	for n := range 3 {
		d.ok(n, "BEGIN")
	}
	d.ok(0, "INSERT INTO u VALUES (1)")
	d.ok(1, "SELECT * FROM t")
	d.ok(2, "SELECT * FROM t")
	d.waits(2, "SELECT * FROM u")
	d.waits(1, "SELECT * FROM u")
	n := len(d.Replies(0))
	d.waits(0, "INSERT INTO t VALUES (1)")
	var got string
	for _, r := range d.Replies(n) {
		got += fmt.Sprint(r.Session, ": ", shown(r), "; ")
	}
	d.told("both", got, "1: 4/0 code 251; 2: 5/0 code 251; ")
	d.told("how they stand", d.stand(), "3bw 0a 0a 0")
	d.ends(0, "3/0 count 1")
}

// TestP25_7Own closes two rings by one wish of a transaction that is the youngest of the first: it alone is the victim.
func TestP25_7Own(t *testing.T) {
	d := open(t, 4, 9, "CREATE TABLE t (a INT)", "CREATE TABLE u (a INT)")
	for n := range 3 {
		d.ok(n, "BEGIN")
	}
	d.ok(2, "INSERT INTO u VALUES (1)")
	d.ok(0, "SELECT * FROM t")
	d.ok(1, "SELECT * FROM t")
	d.waits(1, "SELECT * FROM u")
	d.waits(0, "SELECT * FROM u")
	d.says(2, "INSERT INTO t VALUES (1)", "5/0 code 251")
	d.told("how they stand", d.stand(), "3bw 4bw 0a 0")
	d.ends(0, "3/0 [a]")
	d.ends(1, "4/0 [a]")
}

// TestP25_7Between has the youngest of the first ring between two: the second ring is gone with it, or has another victim.
func TestP25_7Between(t *testing.T) {
	d := open(t, 4, 9, "CREATE TABLE t (a INT)", "CREATE TABLE u (a INT)")
	for n := range 3 {
		d.ok(n, "BEGIN")
	}
	d.ok(1, "INSERT INTO u VALUES (1)") // the one that closes the rings is 4, the others are 3 and 5
	d.ok(0, "SELECT * FROM t")
	d.ok(2, "SELECT * FROM t")
	d.waits(0, "SELECT * FROM u")
	d.waits(2, "SELECT * FROM u")
	// The ring with 3 is met first: 4 is its victim, and 5 is none.
	d.says(1, "INSERT INTO t VALUES (1)", "4/0 code 251")
	d.told("how they stand", d.stand(), "3bw 0a 5bw 0")
}

// TestP25_7Changes has two that share a thing, and each want to change it.
func TestP25_7Changes(t *testing.T) {
	d := sample(t)
	for n := range 2 {
		d.ok(n, "BEGIN")
		d.ok(n, "SELECT * FROM t")
	}
	d.waits(1, "DELETE FROM t")
	d.submit(0, "DELETE FROM t")
	d.told("the older waits", d.last(0), "B")
	d.told("the younger is the victim", shown(d.newest()), "6/0 code 251")
	d.ends(0, "5/0 count 3")
	d.told("how they stand", d.stand(), "5b 0a 0")
	d.says(0, "ROLLBACK", "5/0")
	d.told("what the tables hold", d.content(), "t 1,10 2,20 3,30; u")
}

// TestP25_7Names has rings at names.
func TestP25_7Names(t *testing.T) {
	d := sample(t)
	d.ok(0, "BEGIN")
	d.ok(1, "BEGIN")
	d.ok(0, "CREATE TABLE w (a INT)")
	d.ok(1, "SELECT * FROM u")
	d.waits(1, "SELECT * FROM w")
	d.waits(0, "DROP TABLE u")
	d.told("the victim", shown(d.newest()), "6/0 code 251")
	d.ends(0, "5/0")
	// A statement alone that makes a table is the youngest, and is none behind.
	d = sample(t)
	d.ok(0, "BEGIN")
	d.ok(0, "SELECT * FROM t")
	d.submit(1, "DROP TABLE t")
	d.told("it waits", d.steps(1), "RRB")
	d.submit(0, "CREATE TABLE w (a INT)")
	d.told("it closes a ring", d.last(0), "B")
	d.told("the victim", shown(d.newest()), "6/0 code 251")
	d.told("how they stand", d.stand(), "5bw 0 0")
	d.ends(0, "5/0")
	d.says(1, "SELECT a FROM t WHERE a = 1", "7/5 [a] 1")
}

// TestP25_7None has those that wait in no ring: nobody is a victim, however long the row.
func TestP25_7None(t *testing.T) {
	d := rowsApart(t, 16, 15)
	for n := range 15 {
		if n > 0 {
			d.waits(n, wants(10*n-10))
		}
	}
	d.waits(15, wants(140))
	for range 3 {
		for n := range 16 {
			d.Step(n)
		}
	}
	if len(d.Edges()) != 15 {
		t.Errorf("who waits: %v", d.Edges())
	}
	for n := range 16 {
		if n > 0 {
			d.told("it goes on", d.last(n), "D")
		}
		if n < 15 {
			d.ok(n, "COMMIT")
		}
	}
	d.told("the locks", d.Locks(), "[]")
	for _, r := range d.Replies(0) {
		if r.Code != api.OK {
			t.Errorf("%v", r)
		}
	}
}

// TestP25_7Outside has one that waits for a ring, and is older or younger than all in it: it is no victim.
func TestP25_7Outside(t *testing.T) {
	for _, outside := range []int{0, 1, 2} {
		d := rowsApart(t, 3, 3)
		var in []int
		for n := range 3 {
			if n != outside {
				in = append(in, n)
			}
		}
		d.waits(in[0], wants(10*in[1]))
		d.waits(outside, wants(10*in[0]))
		d.submit(in[1], wants(10*in[0]))
		d.last(in[1])
		d.told("the victim's session", d.newest().Session, fmt.Sprint(in[1]))
		d.told("the victim", d.newest().Code, "errno 251")
		if s := d.Sessions()[outside]; s.Txn == 0 || !s.Busy || s.Aborted {
			t.Errorf("outside: %v", s)
		}
	}
}
