package engine_test

import (
	"fmt"
	"slices"
	"strconv"
	"strings"
	"testing"

	"hasp/api"
	"hasp/engine"
	"hasp/keys"
)

// desk is an engine, as tests ask it.
type desk struct {
	*testing.T
	*engine.Engine
}

// open gives an engine whose tables may have so many rows, on which these statements were done by the session 0, each for itself.
func open(t *testing.T, sessions, rows int, ahead ...string) *desk {
	t.Helper()
	e, code := engine.New(api.Config{Sessions: sessions, Rows: rows})
	if code != api.OK || e == nil {
		t.Fatalf("New: %d", code)
	}
	d := &desk{t, e}
	for _, text := range ahead {
		d.ok(0, text)
	}
	return d
}

// sample gives three sessions over t (a, b) with a unique index i on a, and three rows; four transactions were committed.
func sample(t *testing.T) *desk {
	t.Helper()
	return open(t, 3, 8, "CREATE TABLE t (a INT, b INT)", "CREATE UNIQUE INDEX i ON t (a)", "INSERT INTO t VALUES (1, 10), (2, 20), (3, 30)", "CREATE TABLE u (c INT NOT NULL)")
}

// steps lets a session do steps up to the first that doesn't answer Running, and gives the answers: R, B, D, I for none.
func (d *desk) steps(session int) string {
	d.Helper()
	all := ""
	for range 3000 {
		n := d.Step(session)
		all += [...]string{"I", "R", "B", "D"}[n]
		if n != api.Running {
			return all
		}
	}
	d.Fatalf("session %d comes to no end", session)
	return ""
}

// last gives the answer of steps that isn't Running.
func (d *desk) last(session int) string {
	d.Helper()
	all := d.steps(session)
	return all[len(all)-1:]
}

// do does a statement to its end, and gives its reply.
func (d *desk) do(session int, text string) api.Reply {
	d.Helper()
	d.submit(session, text)
	if got := d.last(session); got != "D" {
		d.Fatalf("%d: %s: %s", session, text, got)
	}
	return d.newest()
}

// ok does a statement that must be replied with OK.
func (d *desk) ok(session int, text string) api.Reply {
	d.Helper()
	r := d.do(session, text)
	if r.Code != api.OK {
		d.Fatalf("%d: %s: %d", session, text, r.Code)
	}
	return r
}

func (d *desk) submit(session int, text string) {
	d.Helper()
	if !d.Submit(session, text) {
		d.Fatalf("%d: %s isn't taken", session, text)
	}
}

// waits submits a statement, and holds that it has to wait.
func (d *desk) waits(session int, text string) {
	d.Helper()
	d.submit(session, text)
	if got := d.last(session); got != "B" {
		d.Fatalf("%d: %s doesn't wait: %s", session, text, got)
	}
}

// ends lets a session do steps, and holds that its reply is given then.
func (d *desk) ends(session int, want string) {
	d.Helper()
	if got := d.last(session); got != "D" {
		d.Fatalf("%d: %s", session, got)
	}
	d.told("the reply", shown(d.newest()), want)
}

// newest gives the last reply.
func (d *desk) newest() api.Reply {
	d.Helper()
	all := d.Replies(0)
	if len(all) == 0 {
		d.Fatal("no reply")
	}
	return all[len(all)-1]
}

// says does a statement, and holds its reply.
func (d *desk) says(session int, text, want string) {
	d.Helper()
	r := d.do(session, text)
	d.told(text, shown(r), want)
	if r.Session != session || r.Text != text {
		d.Errorf("%s of session %d: the reply is of %q, %d", text, session, r.Text, r.Session)
	}
}

// told holds what something is as text.
func (d *desk) told(what string, got any, want string) {
	d.Helper()
	if s := fmt.Sprint(got); s != want {
		d.Errorf("%s: %s, not %s", what, s, want)
	}
}

// shown gives a reply as text: "4/2 code 0 [a b] 1,10 2,20" is in transaction 4 with Seq 2; "count 3" at the end, if it isn't 0.
func shown(r api.Reply) string {
	s := fmt.Sprintf("%d/%d", r.Txn, r.Seq)
	if r.Code != api.OK {
		s += fmt.Sprint(" code ", int(r.Code))
	}
	if len(r.Names) > 0 {
		s += fmt.Sprint(" ", r.Names)
	}
	for _, row := range r.Rows {
		s += " " + valuesText(row)
	}
	if r.Count != 0 {
		s += fmt.Sprint(" count ", r.Count)
	}
	return s
}

func valuesText(row []api.Value) string {
	var list []string
	for _, v := range row {
		switch v.Kind {
		case api.Null:
			list = append(list, "-")
		case api.Text:
			list = append(list, v.Text)
		default:
			list = append(list, strconv.FormatInt(v.Num, 10))
		}
	}
	return strings.Join(list, ",")
}

// content gives what the tables hold: "t 1,10 2,20; u".
func (d *desk) content() string {
	var list []string
	for _, x := range d.Dump() {
		s := x.Table.Name
		for _, row := range x.Rows {
			s += " " + valuesText(row)
		}
		list = append(list, s)
	}
	return strings.Join(list, "; ")
}

// locked gives all locks of a transaction, in the order of the things, a blank and a comma between: "n/t S"; k/t/i/2#5 is the entry of the value 2 and the row 5.
func (d *desk) locked(txn int) string {
	var list []string
	for _, l := range d.Locks() {
		if l.Txn == txn {
			list = append(list, thingText(l.Res)+" "+modeText(l.Mode))
		}
	}
	return strings.Join(list, ", ")
}

func modeText(mode int) string { return [...]string{"", "IS", "IX", "S", "SIX", "U", "X"}[mode] }

func thingText(res string) string {
	parts := strings.SplitN(res, "/", 4)
	if parts[0] != "k" {
		return res
	}
	values, _ := keys.Decode([]byte(parts[3]))
	n := len(values) - 1
	return strings.Join(parts[:3], "/") + "/" + valuesText(values[:n]) + "#" + valuesText(values[n:])
}

// stand gives how the sessions stand: the transaction's number, with b: begun by BEGIN, a: aborted, w: it has a statement to do.
func (d *desk) stand() string {
	var list []string
	for _, s := range d.Sessions() {
		text := strconv.Itoa(s.Txn)
		for i, is := range []bool{s.Begun, s.Aborted, s.Busy} {
			if is {
				text += "baw"[i : i+1]
			}
		}
		list = append(list, text)
	}
	return strings.Join(list, " ")
}

// all gives all that an engine tells.
func (d *desk) all() string {
	return fmt.Sprint(d.Replies(0), d.Sessions(), d.Dump(), d.Locks(), d.Edges(), d.Sound())
}

// fine holds what always holds: the store is sound, nobody waits in a ring, and the locks are of open transactions.
func (d *desk) fine() {
	d.Helper()
	if !d.Sound() {
		d.Fatal("not sound")
	}
	var open []int
	for _, s := range d.Sessions() {
		open = append(open, s.Txn)
	}
	for _, l := range d.Locks() {
		if !slices.Contains(open, l.Txn) || l.Txn == 0 {
			d.Fatalf("%v is of no open transaction", l)
		}
	}
}
