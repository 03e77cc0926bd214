package engine_test

import (
	"fmt"
	"strings"
	"testing"

	"hasp/api"
	"hasp/bind"
	"hasp/norm"
	"hasp/parse"
)

// tally counts what a test has met.
type tally map[string]int

// meets holds that all of this has been met so often at least.
func (c tally) meets(t *testing.T, least int, what ...string) {
	t.Helper()
	for _, s := range what {
		if c[s] < least {
			t.Errorf("%s: %d times; in all %v", s, c[s], c)
		}
	}
}

// next gives what a session that has no statement to do submits next.
func (g *maker) next(list []api.Table, begun bool) query {
	switch g.IntN(30) {
	case 0:
		return query{text: "BEGIN"}
	case 1:
		return query{text: pick(g, "COMMIT", "ROLLBACK")}
	case 2:
		return query{text: pick(g, "nonsense", "", "SELECT 'x", "SELECT a FROM", "SELECT a FROM w", "DROP INDEX w", "SELECT z FROM t")}
	case 3, 4, 5:
		if begun {
			return query{text: pick(g, "COMMIT", "COMMIT", "ROLLBACK")}
		}
		return query{text: "BEGIN"}
	}
	return g.statement(list, 3)
}

func (d *desk) descs() []api.Table {
	var list []api.Table
	for _, x := range d.Dump() {
		list = append(list, x.Table)
	}
	return list
}

// TestP25_5Random has one session alone: what random statements answer and leave is what they mean.
func TestP25_5Random(t *testing.T) {
	t.Parallel()
	g := newMaker(5)
	met := tally{}
	for n := range 250 {
		most := pick(g, 3, 6, 9)
		d := open(t, 1+n%3, most)
		m := &model{most: most}
		for range 120 {
			q := g.next(d.descs(), m.txn != 0)
			d.holdsMeaning(m, n%(1+n%3), q)
			r := d.newest()
			met[fmt.Sprint("code ", int(r.Code))]++
			met[fmt.Sprint("count ", r.Count > 0)]++
			if len(r.Rows) > 1 && len(q.desc) > 0 {
				met["sorted"]++
			}
			if m.txn != 0 {
				met["within"]++
			}
			if strings.HasPrefix(q.text, "ROLLBACK") && r.Code == api.OK {
				met["rolled back"]++
			}
		}
		d.fine()
	}
	met.meets(t, 2000, "code 0", "count true", "within")
	met.meets(t, 200, "sorted", "rolled back", "code 130", "code 160", "code 191", "code 250", "code 60")
	met.meets(t, 20, "code 10", "code 31", "code 32", "code 121", "code 161", "code 163", "code 164", "code 165", "code 190")
}

// holdsMeaning does a statement, and holds its reply, what the tables hold, and that the other sessions don't stand otherwise; and its steps (P25.8).
func (d *desk) holdsMeaning(m *model, session int, q query) {
	d.Helper()
	most := m.stepsAtMost(q.text)
	want := m.do(q.text)
	want.Session = session
	d.submit(session, q.text)
	took := 1
	for state := d.Step(session); state != api.Done; state = d.Step(session) {
		if state != api.Running || took > most {
			d.Fatalf("%s: %d behind %d steps, of %d at most", q.text, state, took, most)
		}
		took++
	}
	got := d.newest()
	if fmt.Sprint(got.Session, got.Txn, got.Seq, saidText(got)) != fmt.Sprint(want.Session, want.Txn, want.Seq, saidText(want)) || !isSorted(got.Rows, q.desc) {
		d.Fatalf("%s: %v, not %v", q.text, got, want)
	}
	if held := holdsText(d.Dump()); held != m.holds() {
		d.Fatalf("%s leaves %s, not %s", q.text, held, m.holds())
	}
	if s := d.Sessions()[session]; s.Txn != m.txn || s.Begun != (m.txn != 0) || s.Busy || s.Aborted {
		d.Fatalf("%s: the session stands %v", q.text, s)
	}
	if m.txn == 0 && len(d.Locks()) != 0 {
		d.Fatalf("%s leaves locks: %v", q.text, d.Locks())
	}
}

// stepsAtMost gives the steps that a statement may take by P25.8, with as many rows as there are.
func (m *model) stepsAtMost(text string) int {
	st, code := parse.Parse(text)
	if code != api.OK || st.Kind >= api.StBegin {
		return 1
	}
	steps := 8 + api.MaxIndexes
	x, code := bind.Bind(st, m.descs())
	if code != api.OK || st.Kind < api.StInsert {
		return steps
	}
	r := 0
	for _, table := range x.Tables {
		r = max(r, len(m.rowsOf(table.Name)))
	}
	return steps + runAtMost(x, r)
}

// runAtMost gives the steps that a plan may take by P23.3, over sources of so many rows.
func runAtMost(x api.Term, r int) int {
	n, parts := len(x.Tables), 0
	if x.Kind == api.StInsert {
		parts = len(x.Rows)
	}
	for _, cond := range x.Conds {
		parts += len(norm.Conjuncts(cond))
	}
	most := (20 + 2*parts) * n
	for range n {
		most *= r + 1
	}
	return 200 + most
}
