package serial_test

import (
	"fmt"
	"math"
	"strconv"
	"strings"
	"testing"

	"hasp/api"
	"hasp/serial"
)

// desk is a machine, as tests ask it.
type desk struct {
	*testing.T
	*serial.Machine
}

// open gives a machine whose tables may have so many rows, on which these statements were done.
func open(t *testing.T, rows int, ahead ...string) *desk {
	t.Helper()
	m, code := serial.New(rows)
	if code != api.OK || m == nil {
		t.Fatalf("New(%d): %d", rows, code)
	}
	d := &desk{t, m}
	for _, text := range ahead {
		d.ok(text)
	}
	return d
}

// sample gives a machine with t (a, b), three rows in it and a unique index on a; and u, without rows. Four transactions were committed.
func sample(t *testing.T) *desk {
	t.Helper()
	return open(t, 5, "CREATE TABLE t (a INT, b INT)", "CREATE UNIQUE INDEX i ON t (a)", "INSERT INTO t VALUES (1, 10), (2, 20), (3, 30)", "CREATE TABLE u (c INT NOT NULL)")
}

// ok does a statement that must be replied with OK.
func (d *desk) ok(text string) api.Reply {
	d.Helper()
	r := d.Do(text)
	if r.Code != api.OK {
		d.Fatalf("%s: %d", text, r.Code)
	}
	return r
}

// says does statements, and holds their replies, one behind the other: texts and what is shown of their replies.
func (d *desk) says(list ...string) {
	d.Helper()
	for i := 0; i < len(list); i += 2 {
		r := d.Do(list[i])
		if got := shown(r); got != list[i+1] {
			d.Errorf("%s: %s, not %s", list[i], got, list[i+1])
		}
		if r.Text != list[i] || r.Session != 0 {
			d.Errorf("%s: of session %d: %q", list[i], r.Session, r.Text)
		}
	}
}

func told(t *testing.T, what string, got any, want string) {
	t.Helper()
	if s := fmt.Sprint(got); s != want {
		t.Errorf("%s: %s, not %s", what, s, want)
	}
}

// shown gives a reply as text: "4/2 [a b] 1,10 2,- count 3" is in transaction 4, with Seq 2; "code 30" where there is an error.
func shown(r api.Reply) string {
	s := fmt.Sprintf("%d/%d", r.Txn, r.Seq)
	if r.Code != api.OK {
		s += fmt.Sprint(" code ", int(r.Code))
	}
	if r.Names != nil {
		s += fmt.Sprint(" ", r.Names)
	}
	for _, row := range r.Rows {
		s += " " + valuesText(row)
	}
	if r.Count != 0 {
		s += fmt.Sprint(" count ", r.Count)
	}
	return s
}

func valuesText(row []api.Value) string {
	var list []string
	for _, v := range row {
		switch v.Kind {
		case api.Null:
			list = append(list, "-")
		case api.Text:
			list = append(list, v.Text)
		default:
			list = append(list, strconv.FormatInt(v.Num, 10))
		}
	}
	return strings.Join(list, ",")
}

// content gives what the tables hold: "t 1,10 2,20; u".
func (d *desk) content() string {
	var list []string
	for _, x := range d.Dump() {
		s := x.Table.Name
		for _, row := range x.Rows {
			s += " " + valuesText(row)
		}
		list = append(list, s)
	}
	return strings.Join(list, "; ")
}

func TestP27_1New(t *testing.T) {
	for rows, want := range map[int]api.Errno{
		1: api.OK, 2: api.OK, 999: api.OK, 1000: api.OK,
		0: api.ErrArg, -1: api.ErrArg, 1001: api.ErrArg, math.MaxInt: api.ErrArg, math.MinInt: api.ErrArg, 1 << 32: api.ErrArg, 1 + 1<<32: api.ErrArg,
	} {
		m, code := serial.New(rows)
		if code != want || (m == nil) != (code != api.OK) {
			t.Errorf("New(%d) = %v, %d", rows, m != nil, code)
		}
		if m != nil && len(m.Dump()) != 0 {
			t.Errorf("New(%d): %v", rows, m.Dump())
		}
	}
}

// TestP27_1Example is the chapter's.
func TestP27_1Example(t *testing.T) {
	open(t, 1).says("CREATE TABLE t (a INT)", "1/1", "COMMIT", "0/0 code 250")
}

// TestP27_1Txn has the transactions and numbers of replies of all kinds.
func TestP27_1Txn(t *testing.T) {
	d := sample(t)
	d.says(
		// Without a transaction, what is replied at once.
		"nonsense", "0/0 code 130", "COMMIT", "0/0 code 250", "ROLLBACK", "0/0 code 250", "", "0/0 code 130", "SELECT 'x", "0/0 code 121",
		// Statements alone: each has a transaction, which is committed, whatever came of it.
		"SELECT a FROM t", "5/5 [a] 1 2 3", "SELECT z FROM t", "6/6 code 161", "INSERT INTO t VALUES (1, 1)", "7/7 code 190", "DELETE FROM w", "8/8 code 160", "UPDATE t SET b = b + 1 WHERE a < 3", "9/9 count 2", "DELETE FROM t WHERE a > 9", "10/10", "CREATE TABLE w (x TEXT)", "11/11", "SELECT 1 / (a - 1) FROM t", "12/12 code 32",
		// Within BEGIN and COMMIT.
		"begin", "13/0", "BEGIN", "13/0 code 250", "nonsense", "13/0 code 130", "SELECT 'x", "13/0 code 121", "INSERT INTO u VALUES (1), (2)", "13/0 count 2", "SELECT z FROM t", "13/0 code 161", "SELECT c FROM u", "13/0 [c] 1 2", "INSERT INTO u VALUES (NULL)", "13/0 code 60", "CREATE TABLE w (x TEXT)", "13/0 code 163", "CREATE INDEX j ON u (c)", "13/0", "COMMIT", "13/13",
		"COMMIT", "0/0 code 250",
		// What is rolled back is no committed one.
		"BEGIN", "14/0", "DELETE FROM u", "14/0 count 2", "ROLLBACK", "14/0", "ROLLBACK", "0/0 code 250", "SELECT c FROM u", "15/14 [c] 1 2",
		"BEGIN", "16/0", "COMMIT", "16/15", "BEGIN", "17/0", "ROLLBACK", "17/0", "DROP INDEX j", "18/16",
	)
}

// TestP27_1Fields holds which fields a reply has: with OK of a query Names and Rows, of changes Count, else none of these.
func TestP27_1Fields(t *testing.T) {
	sample(t).says(
		"SELECT a + 1 AS x, b, a + b, t.a FROM t WHERE a = 2", "5/5 [x b  a] 3,20,22,2",
		"SELECT * FROM t AS x JOIN t AS y ON x.a = 1 AND y.a = 3", "6/6 [a b a b] 1,10,3,30",
		"SELECT * FROM t WHERE FALSE", "7/7 [a b]",
		"SELECT * FROM u", "8/8 [c]",
		"SELECT NULL FROM t WHERE a = 1", "9/9 [] -",
		"INSERT INTO t VALUES (4, NULL), (5, 50)", "10/10 count 2",
		"UPDATE t SET b = 0", "11/11 count 5",
		"UPDATE t SET b = 0 WHERE FALSE", "12/12",
		"DELETE FROM t WHERE a >= 3", "13/13 count 3",
		"DELETE FROM t WHERE a >= 3", "14/14",
		"CREATE INDEX j ON u (c)", "15/15", "DROP INDEX j", "16/16", "DROP TABLE u", "17/17",
		"SELECT a, 1 / (a - 2) FROM t", "18/18 code 32", "UPDATE t SET a = 1", "19/19 code 190", "INSERT INTO t VALUES (7, 7), (1, 1)", "20/20 code 190", "DELETE FROM t WHERE 1 / (a - 1) = 1", "21/21 code 32",
	)
}

// TestP27_1Text gives texts back as they are, also those that can't be read.
func TestP27_1Text(t *testing.T) {
	d := sample(t)
	txn := 4
	for _, c := range []struct {
		text string
		code api.Errno
	}{
		{" select  a\tfrom T where A=1\n", api.OK}, {"sElEcT 1 FROM u", api.OK}, {"\x00", api.ErrSign}, {"\xff\xfe", api.ErrSign}, {"SELECT a FROM t;", api.ErrSign}, {"BEGIN BEGIN", api.ErrSyntax}, {"SELECT a FROM", api.ErrSyntax},
		{strings.Repeat(" ", api.MaxSql+1), api.ErrLong}, {strings.Repeat("x", api.MaxName+1), api.ErrWord}, {"SELECT 99999999999999999999 FROM t", api.ErrNumber}, {"SELECT " + strings.Repeat("(", 50) + "1" + strings.Repeat(")", 50) + " FROM t", api.ErrDeep},
		{"INSERT INTO t VALUES " + strings.Repeat("(1, 1), ", 50) + "(1, 1)", api.ErrMany},
	} {
		r := d.Do(c.text)
		want := 0
		if c.code == api.OK {
			txn++
			want = txn
		}
		if r.Code != c.code || r.Text != c.text || r.Session != 0 || r.Txn != want || r.Seq != want {
			t.Errorf("%q: %v", c.text, r)
		}
	}
	told(t, "what the tables hold", d.content(), "t 1,10 2,20 3,30; u")
}

// TestP27_1Undone rolls statements of all kinds back.
func TestP27_1Undone(t *testing.T) {
	d := sample(t)
	before := fmt.Sprint(d.Dump())
	d.ok("BEGIN")
	for _, text := range []string{
		"UPDATE t SET a = a + 1", "DELETE FROM t WHERE a = 2", "INSERT INTO t VALUES (7, 7)", "DROP INDEX i", "CREATE INDEX k ON t (b)", "INSERT INTO t VALUES (7, 7)", "DROP TABLE u", "CREATE TABLE u (x TEXT, y BOOL)",
		"INSERT INTO u VALUES ('x', TRUE)", "CREATE UNIQUE INDEX i ON u (y, x)", "DROP TABLE t", "CREATE TABLE w (a INT)", "CREATE TABLE t (a INT)", "INSERT INTO t VALUES (1)",
	} {
		d.ok(text)
	}
	told(t, "ahead of the end", d.content(), "t 1; u x,1; w")
	d.ok("ROLLBACK")
	told(t, "behind it", d.Dump(), before)
	// The index is there again.
	d.says("INSERT INTO t VALUES (2, 2)", "6/5 code 190", "SELECT name, tbl FROM sysindexes", "7/6 [name tbl] i,t")
}

// TestP27_1Dump has what the tables hold, by the tables' names and the rows' numbers, with what isn't committed.
func TestP27_1Dump(t *testing.T) {
	d := sample(t)
	d.ok("CREATE TABLE s (x TEXT)")
	told(t, "the tables", d.Dump(), "[{{s [{x 4 false}] []} []} {{t [{a 2 false} {b 2 false}] [{i [0] true}]} [[{2 1 } {2 10 }] [{2 2 } {2 20 }] [{2 3 } {2 30 }]]} {{u [{c 2 true}] []} []}]")
	d.ok("BEGIN")
	d.ok("UPDATE t SET a = 9 - a, b = a")
	d.ok("DELETE FROM t WHERE b = 2")
	d.ok("INSERT INTO t VALUES (0, 0)")
	d.ok("INSERT INTO u VALUES (5)")
	told(t, "not committed", d.content(), "s; t 8,1 6,3 0,0; u 5")
	d.ok("DROP TABLE s")
	told(t, "a table less", d.content(), "t 8,1 6,3 0,0; u 5")
	d.ok("ROLLBACK")
	told(t, "rolled back", d.content(), "s; t 1,10 2,20 3,30; u")
}

// TestP27_1Machines has two machines: what is done to one isn't seen in the other.
func TestP27_1Machines(t *testing.T) {
	one, two := open(t, 5, "CREATE TABLE t (a INT)"), open(t, 3)
	one.says("BEGIN", "2/0", "INSERT INTO t VALUES (1)", "2/0 count 1")
	two.says("SELECT * FROM t", "1/1 code 160", "COMMIT", "0/0 code 250", "CREATE TABLE t (z TEXT)", "2/2")
	one.says("SELECT * FROM t", "2/0 [a] 1", "COMMIT", "2/2")
	told(t, "the other one", two.content(), "t")
}
