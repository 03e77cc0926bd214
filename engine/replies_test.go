package engine_test

import (
	"fmt"
	"math"
	"slices"
	"strings"
	"testing"

	"hasp/api"
)

// line is a statement of a session, with its reply.
type line struct {
	session    int
	text, want string
}

func (d *desk) play(lines ...line) {
	d.Helper()
	for _, l := range lines {
		d.says(l.session, l.text, l.want)
	}
}

// TestP25_3Txn has the transactions and numbers of replies of all kinds.
func TestP25_3Txn(t *testing.T) {
	sample(t).play(
		// In the first step, without a transaction.
		line{0, "nonsense", "0/0 code 130"}, line{0, "COMMIT", "0/0 code 250"}, line{0, "ROLLBACK", "0/0 code 250"},
		// Statements alone: each has a transaction, which is committed, whatever came of it.
		line{0, "SELECT a FROM t ORDER BY a DESC", "5/5 [a] 3 2 1"}, line{1, "SELECT z FROM t", "6/6 code 161"}, line{2, "INSERT INTO t VALUES (1, 1)", "7/7 code 190"}, line{2, "DELETE FROM w", "8/8 code 160"},
		line{0, "UPDATE t SET b = b + 1 WHERE a < 3", "9/9 count 2"}, line{0, "DELETE FROM t WHERE a > 9", "10/10"}, line{0, "CREATE TABLE w (x TEXT)", "11/11"}, line{0, "SELECT 1 / (a - 1) FROM t", "12/12 code 32"},
		// Within BEGIN and COMMIT.
		line{1, "BEGIN", "13/0"}, line{1, "BEGIN", "13/0 code 250"}, line{1, "nonsense", "13/0 code 130"}, line{1, "SELECT 'x", "13/0 code 121"}, line{1, "INSERT INTO u VALUES (1), (2)", "13/0 count 2"}, line{1, "SELECT z FROM t", "13/0 code 161"}, line{1, "SELECT c FROM u ORDER BY c", "13/0 [c] 1 2"}, line{1, "INSERT INTO u VALUES (NULL)", "13/0 code 60"}, line{1, "CREATE TABLE w (x TEXT)", "13/0 code 163"}, line{1, "CREATE INDEX j ON u (c)", "13/0"},
		// Another one meanwhile.
		line{2, "BEGIN", "14/0"}, line{2, "SELECT a FROM t WHERE a = 1", "14/0 [a] 1"}, line{0, "SELECT a FROM t WHERE a = 2", "15/13 [a] 2"}, line{0, "nonsense", "0/0 code 130"}, line{2, "COMMIT", "14/14"},
		line{1, "COMMIT", "13/15"}, line{1, "COMMIT", "0/0 code 250"}, line{1, "BEGIN", "16/0"}, line{1, "DELETE FROM u", "16/0 count 2"}, line{1, "ROLLBACK", "16/0"}, line{1, "ROLLBACK", "0/0 code 250"}, line{1, "SELECT c FROM u ORDER BY c", "17/16 [c] 1 2"},
		line{0, "BEGIN", "18/0"}, line{0, "COMMIT", "18/17"}, line{0, "BEGIN", "19/0"}, line{0, "ROLLBACK", "19/0"},
	)
}

// TestP25_3Aborted has the replies to an aborted session.
func TestP25_3Aborted(t *testing.T) {
	ring(t).play(
		line{1, "SELECT a FROM t", "0/0 code 252"}, line{1, "nonsense", "0/0 code 252"}, line{1, "", "0/0 code 252"}, line{1, "COMMIT", "0/0 code 252"}, line{1, "INSERT INTO u VALUES (1)", "0/0 code 252"}, line{1, "CREATE TABLE w (a INT)", "0/0 code 252"}, line{1, "SELECT 'x", "0/0 code 252"}, line{1, "COMMIT", "0/0 code 252"},
		line{1, "rollback", "0/0"}, line{1, "ROLLBACK", "0/0 code 250"}, line{1, "nonsense", "0/0 code 130"}, line{1, "SELECT c FROM u", "7/5 [c]"},
	)
	d := ring(t)
	d.play(line{1, "begin", "7/0"}, line{1, "BEGIN", "7/0 code 250"})
	d.told("how they stand", d.stand(), "5bw 7b 0")
	d.play(line{1, "SELECT c FROM u", "7/0 [c]"}, line{1, "nonsense", "7/0 code 130"}, line{1, "COMMIT", "7/5"}, line{1, "SELECT c FROM u", "8/6 [c]"})
	d.ends(0, "5/0 count 1")
	d.says(0, "COMMIT", "5/7")
}

// TestP25_3Steps counts the steps of what an aborted session submits: each is replied in its first.
func TestP25_3Steps(t *testing.T) {
	d := ring(t)
	for _, text := range []string{"SELECT a FROM t", "nonsense", "COMMIT", "BEGIN", "COMMIT"} {
		d.submit(1, text)
		d.told(text, d.steps(1), "D")
	}
}

// TestP25_3Fields holds what fields a reply has: with OK of a query Names and Rows, of changes Count, else none of these.
func TestP25_3Fields(t *testing.T) {
	d := sample(t)
	for _, c := range []struct {
		text  string
		names []string
		rows  string
		count int
	}{
		{"SELECT a + 1 AS x, b, a + b, t.a FROM t WHERE a = 2", []string{"x", "b", "", "a"}, "[[{2 3 } {2 20 } {2 22 } {2 2 }]]", 0},
		{"SELECT * FROM t AS x JOIN t AS y ON x.a = 1 AND y.a = 3", []string{"a", "b", "a", "b"}, "[[{2 1 } {2 10 } {2 3 } {2 30 }]]", 0},
		{"SELECT * FROM t WHERE FALSE", []string{"a", "b"}, "[]", 0},
		{"SELECT NULL FROM t WHERE a = 1", []string{""}, "[[{0 0 }]]", 0},
		{"INSERT INTO t VALUES (4, NULL), (5, 50)", nil, "[]", 2},
		{"UPDATE t SET b = 0", nil, "[]", 5},
		{"UPDATE t SET b = 0 WHERE FALSE", nil, "[]", 0},
		{"DELETE FROM t WHERE a >= 3", nil, "[]", 3},
		{"DELETE FROM t WHERE a >= 3", nil, "[]", 0},
		{"CREATE TABLE w (a INT)", nil, "[]", 0}, {"CREATE INDEX wi ON w (a)", nil, "[]", 0}, {"DROP INDEX wi", nil, "[]", 0}, {"DROP TABLE w", nil, "[]", 0}, {"BEGIN", nil, "[]", 0}, {"ROLLBACK", nil, "[]", 0}, {"BEGIN", nil, "[]", 0}, {"COMMIT", nil, "[]", 0},
	} {
		r := d.do(0, c.text)
		if r.Code != api.OK || !slices.Equal(r.Names, c.names) || fmt.Sprint(r.Rows) != c.rows || r.Count != c.count || r.Session != 0 || r.Text != c.text {
			t.Errorf("%s: %v", c.text, r)
		}
	}
	for _, text := range []string{"SELECT 1 / (a - a) FROM t", "SELECT a, 1 / (a - 2) FROM t", "UPDATE t SET a = 1", "INSERT INTO t VALUES (7, 7), (1, 1)", "DELETE FROM t WHERE 1 / (a - 1) = 1", "SELECT z FROM t"} {
		r := d.do(0, text)
		if r.Code == api.OK || r.Names != nil || r.Rows != nil || r.Count != 0 {
			t.Errorf("%s: %v", text, r)
		}
	}
	d.told("what the tables hold", d.content(), "t 1,0 2,0; u")
}

// TestP25_3Text gives texts back as they were submitted.
func TestP25_3Text(t *testing.T) {
	d := sample(t)
	for i, text := range []string{" select  a\tfrom T where A=1\n", "bEgIn", "\x00\xff", "", strings.Repeat(" ", 5000), "COMMIT "} {
		if r := d.do(i%3, text); r.Text != text || r.Session != i%3 {
			t.Errorf("%q: %v", text, r)
		}
	}
	d.told("the first reply", d.Replies(4)[0].Text, " select  a\tfrom T where A=1\n")
}

// TestP25_3From asks for the replies behind the first ones.
func TestP25_3From(t *testing.T) {
	d := open(t, 2, 5)
	for _, from := range []int{0, 1, -1, math.MaxInt, math.MinInt} {
		if got := d.Replies(from); len(got) != 0 {
			t.Errorf("ahead of all replies: %v", got)
		}
	}
	texts := []string{"CREATE TABLE t (a INT)", "nonsense", "SELECT * FROM t", "BEGIN", "COMMIT"}
	for i, text := range texts {
		d.do(i%2, text)
	}
	for _, from := range []int{0, 1, 2, 3, 4, 5, 6, 100, math.MaxInt, -1, -5, math.MinInt, 1 << 32, -1 << 32} {
		var got []string
		for _, r := range d.Replies(from) {
			got = append(got, r.Text)
		}
		if want := texts[min(max(from, 0), 5):]; !slices.Equal(got, want) {
			t.Errorf("Replies(%d): %q, not %q", from, got, want)
		}
	}
}

// TestP25_3Order has replies in the order in which they were given, not in that of the submits.
func TestP25_3Order(t *testing.T) {
	d := sample(t)
	d.submit(0, "SELECT a FROM t")
	d.submit(1, "nonsense")
	d.submit(2, "SELECT z FROM t")
	for range 60 {
		for n := range 3 {
			d.Step(n)
		}
	}
	var got []string
	for _, r := range d.Replies(4) {
		got = append(got, fmt.Sprint(r.Session, " ", shown(r)))
	}
	d.told("the replies", strings.Join(got, ", "), "1 0/0 code 130, 2 6/5 code 161, 0 5/6 [a] 1 2 3")
}

// TestP25_3Victim has the reply to a victim: its transaction, which was not committed.
func TestP25_3Victim(t *testing.T) {
	d := ring(t)
	d.told("the victim", shown(d.newest()), "6/0 code 251")
	d.told("the text", d.newest().Text, "UPDATE t SET b = 4 WHERE a = 1")
	d.told("the session", d.newest().Session, "1")
	d.ends(0, "5/0 count 1")
	d.says(0, "COMMIT", "5/5") // no number went with the victim
}
