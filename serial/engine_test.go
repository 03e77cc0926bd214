package serial_test

import (
	"fmt"
	"math"
	"reflect"
	"slices"
	"strings"
	"testing"

	"hasp/api"
	"hasp/engine"
	"hasp/parse"
	"hasp/script"
)

// rowsText gives a reply's rows as texts, in one order, whatever theirs is; and where all that is answered is sorted by, also in theirs: of 0 and -0, which are alike, either may be ahead.
func rowsText(r api.Reply) []string {
	var anyhow, sorted []string
	for _, row := range r.Rows {
		text := fmt.Sprintf("%q", fmt.Sprint(row))
		anyhow = append(anyhow, text)
		sorted = append(sorted, strings.ReplaceAll(text, fmt.Sprint("{3 ", math.MinInt64, " }"), "{3 0 }"))
	}
	slices.Sort(anyhow)
	if isWhollySorted(r.Text) {
		return append(anyhow, sorted...)
	}
	return anyhow
}

// isWhollySorted tells whether a query is sorted by all that it answers.
func isWhollySorted(text string) bool {
	st, _ := parse.Parse(text)
	for _, item := range st.Items {
		if !slices.ContainsFunc(st.Order, func(s api.Sort) bool { return reflect.DeepEqual(s.E, item.E) }) {
			return false
		}
	}
	return len(st.Items) > 0
}

// said gives all that a reply says, but for the transaction's numbers.
func said(r api.Reply) string {
	return fmt.Sprintf("%q: code %d names %q count %d rows %v", r.Text, int(r.Code), r.Names, r.Count, rowsText(r))
}

// tally counts what a test has met.
type tally map[string]int

func (c tally) meets(t *testing.T, least int, what ...string) {
	t.Helper()
	for _, s := range what {
		if c[s] < least {
			t.Errorf("%s: %d times; in all %v", s, c[s], c)
		}
	}
}

func (c tally) note(r api.Reply) {
	c[fmt.Sprint("code ", int(r.Code))]++
	if r.Count > 0 {
		c["count"]++
	}
	if len(r.Rows) > 1 {
		c["rows"]++
		if isWhollySorted(r.Text) {
			c["sorted"]++
		}
	}
}

// engineDoes gives the reply of an engine's only session.
func engineDoes(t *testing.T, e *engine.Engine, text string) api.Reply {
	t.Helper()
	given := len(e.Replies(0))
	if !e.Submit(0, text) {
		t.Fatalf("%s isn't taken", text)
	}
	for range 1000000 {
		if e.Step(0) == api.Done {
			return e.Replies(given)[0]
		}
	}
	t.Fatalf("%s comes to no end", text)
	return api.Reply{}
}

// TestP27_1Engine holds random statements against an engine's only session: every field of every reply, and what the tables hold.
func TestP27_1Engine(t *testing.T) {
	t.Parallel()
	g, met := newMaker(3), tally{}
	for range 200 {
		rows := 4 + g.IntN(7)
		d := open(t, rows)
		e, _ := engine.New(api.Config{Sessions: 1, Rows: rows})
		for n := range 120 {
			text := g.statement()
			if n < 8 {
				text = g.write("make", 1)
			}
			got, want := d.Do(text), engineDoes(t, e, text)
			if got.Session != 0 || got.Txn != want.Txn || got.Seq != want.Seq || said(got) != said(want) {
				t.Fatalf("%v, not %v", got, want)
			}
			if !reflect.DeepEqual(d.Dump(), e.Dump()) {
				t.Fatalf("%s leaves %v, not %v", text, d.Dump(), e.Dump())
			}
			met.note(got)
		}
	}
	met.meets(t, 500, "code 0", "count", "rows", "code 160")
	met.meets(t, 100, "sorted", "code 30", "code 60", "code 130", "code 163", "code 191", "code 250")
	met.meets(t, 20, "code 1", "code 10", "code 31", "code 32", "code 61", "code 121", "code 161", "code 164", "code 165", "code 190")
}

// committed gives the replies of the transactions that were committed, in the order of their Seqs.
func committed(list []api.Reply) [][]api.Reply {
	of := map[int][]api.Reply{}
	var all [][]api.Reply
	for _, r := range list {
		if r.Txn != 0 {
			of[r.Txn] = append(of[r.Txn], r)
		}
		if r.Seq != 0 {
			all = append(all, of[r.Txn])
		}
	}
	return all
}

// holdsSerial holds an outcome in which no transaction is open against its committed ones, done one behind the other.
func holdsSerial(t *testing.T, rows int, o api.Outcome, met tally) {
	t.Helper()
	d := open(t, rows)
	for i, list := range committed(o.Replies) {
		for n, r := range list {
			got := d.Do(r.Text)
			if said(got) != said(r) {
				t.Fatalf("the transaction with Seq %d: %v, not %v", i+1, got, r)
			}
			if n == len(list)-1 && got.Seq != i+1 {
				t.Fatalf("the transaction with Seq %d has %d", i+1, got.Seq)
			}
			met.note(r)
		}
		if len(list) > 2 {
			met["long"]++
		}
	}
	got, want := d.Dump(), o.Dump
	if len(got) != len(want) || !o.Sound || len(o.Locks)+len(o.Edges) > 0 {
		t.Fatalf("%d tables, not %d, sound: %v, locks %v, edges %v", len(got), len(want), o.Sound, o.Locks, o.Edges)
	}
	for i, x := range got {
		a, b := rowsText(api.Reply{Rows: x.Rows}), rowsText(api.Reply{Rows: want[i].Rows})
		if !reflect.DeepEqual(x.Table, want[i].Table) || !slices.Equal(a, b) {
			t.Fatalf("%v, not %v", x, want[i])
		}
	}
}

// randomScript gives a script of several sessions, broken off at its end.
func (g *maker) randomScript(sessions, steps int) []api.Step {
	var list []api.Step
	for i := range 6 {
		text := []string{"t", "u", "i", "v", "j", "k"}[i]
		if i%2 == 0 || i == 3 {
			text = "CREATE TABLE " + text + " (a INT, b INT, r REAL, s TEXT, f BOOL)"
		} else {
			text = "CREATE INDEX " + text + " ON t (" + g.write("columns", 0) + ")"
		}
		list = append(list, api.Step{Kind: api.StepSubmit, Text: text})
		for range 20 {
			list = append(list, api.Step{Kind: api.StepPick})
		}
	}
	for range steps {
		s := api.Step{Kind: api.StepPick, Session: g.IntN(sessions)}
		switch n := g.IntN(100); {
		case n < 12:
			s.Kind, s.Text = api.StepSubmit, g.statement()
			if g.IntN(6) == 0 {
				s.Text = []string{"BEGIN", "COMMIT", "ROLLBACK", "BEGIN", "COMMIT"}[g.IntN(5)]
			}
		case n < 35:
			s.Kind = api.StepRound
		case n == 99 && g.IntN(5) == 0:
			s.Kind = api.StepBreak
		}
		list = append(list, s)
	}
	for n := range sessions {
		list = append(list, api.Step{Kind: api.StepBreak, Session: n})
	}
	return list
}

// TestP27_2Scripts does what random scripts have committed one behind the other.
func TestP27_2Scripts(t *testing.T) {
	t.Parallel()
	g, met := newMaker(4), tally{}
	for range 200 {
		rows, sessions := 4+g.IntN(7), 2+g.IntN(4)
		o, code := script.Play(api.Config{Sessions: sessions, Rows: rows}, g.randomScript(sessions, 3000))
		if code != api.OK {
			t.Fatalf("Play: %d", code)
		}
		for _, r := range o.Replies {
			if r.Code == api.ErrDeadlock {
				met["victim"]++
			}
		}
		holdsSerial(t, rows, o, met)
	}
	met.meets(t, 500, "code 0", "count", "rows", "long")
	met.meets(t, 100, "sorted", "victim", "code 160", "code 163", "code 191", "code 250")
	met.meets(t, 10, "code 1", "code 10", "code 31", "code 32", "code 60", "code 61", "code 130", "code 161", "code 164", "code 190")
}
