package vm_test

import (
	"fmt"
	"slices"
	"testing"

	"hasp/api"
	"hasp/cover"
	"hasp/plan"
	"hasp/vm"
)

// scene is a world that can be laid again and again, just alike; in it a transaction may be open that has done a statement.
type scene struct {
	*testing.T
	seed    uint64
	most    int
	ahead   string // empty: none
	crowded bool   // many rows
}

func (s scene) lay() *world {
	w := empty(s.T, 0)
	size := 5
	if s.crowded {
		size = 12
	}
	newMaker(s.seed).lay(w, size)
	w.m = vm.New(w.s, w.x, w.l, s.most)
	if s.ahead != "" {
		if got := last(w.run(s.ahead)); got != "D" {
			s.Fatalf("%s: %s", s.ahead, got)
		}
	}
	return w
}

// run starts a statement in a new transaction.
func (w *world) run(s string) *vm.Run {
	w.Helper()
	x, ok := w.term(s)
	if !ok {
		w.Fatalf("%s isn't right", s)
	}
	p, code := plan.Make(x)
	w.is(s, code)
	w.is(s, cover.Check(p))
	return w.m.Start(w.x.Begin(), p)
}

// alone gives what statements answer one behind the other, each in a transaction that is committed; false: one was Blocked by the transaction that is open.
func (s scene) alone(list ...query) (answers []string, ok bool) {
	w := s.lay()
	for _, q := range list {
		r := w.run(q.text)
		if last(r) != "D" {
			return nil, false
		}
		answers = append(answers, q.said(s.T, r))
		open := w.x.Open()
		w.commit(open[len(open)-1])
	}
	return answers, true
}

// said gives an answer as text.
func (q query) said(t *testing.T, r *vm.Run) string {
	t.Helper()
	got := r.Result()
	if !isSorted(got.Rows, q.desc) {
		t.Errorf("%s isn't sorted: %v", q.text, got.Rows)
	}
	return shown(got)
}

// beside runs two statements in two transactions, a step of one, a step of the other, as the maker wants it (or the first one up to its end ahead of the second), and gives what they answer; false: one was Blocked.
func (s scene) beside(a, b query, g *maker, mixed bool) (answers []string, ok bool) {
	w := s.lay()
	runs := []*vm.Run{w.run(a.text), w.run(b.text)}
	done := 0
	for done != 3 {
		n := 0
		if mixed && g.odds(2) || done == 1 {
			n = 1
		}
		switch runs[n].Step() {
		case api.Blocked:
			return nil, false
		case api.Done:
			done |= 1 << n
		}
	}
	if !w.s.Sound() {
		s.Error("not sound")
	}
	return []string{a.said(s.T, runs[0]), b.said(s.T, runs[1])}, true
}

// holdsApart holds that each answers the same, had the other been ahead of it, or not been at all; false: one was Blocked.
func (s scene) holdsApart(a, b query, g *maker, mixed bool) (string, bool) {
	s.Helper()
	got, ok := s.beside(a, b, g, mixed)
	if !ok {
		return "", false
	}
	what := fmt.Sprintf("P24.5: %+v: %s; %s", s, a.text, b.text)
	first, okA := s.alone(a, b)
	second, okB := s.alone(b, a)
	onlyA, okC := s.alone(a)
	onlyB, okD := s.alone(b)
	if !okA || !okB || !okC || !okD {
		s.Fatalf("%s: Blocked alone", what)
	}
	for i, list := range [][]string{first, {second[1], second[0]}, {onlyA[0], onlyB[0]}} {
		if fmt.Sprint(list) != fmt.Sprint(got) {
			s.Fatalf("%s: beside each other %q, else (%d) %q", what, got, i, list)
		}
	}
	return got[0] + got[1], true
}

// TestP24_5Random runs random statements beside each other.
func TestP24_5Random(t *testing.T) {
	t.Parallel()
	g := newMaker(5)
	met := tally{}
	for n := range uint64(800) {
		s := scene{T: t, seed: n, crowded: g.odds(2)}
		s.most = 4 + g.IntN(14)
		tables := s.lay().s.Tables()
		if g.odds(3) {
			q := g.statement(tables, 1)
			if _, ok := s.lay().term(q.text); ok {
				s.ahead = q.text
			}
		}
		for range 8 {
			some := tables
			if g.odds(2) {
				some = tables[:1]
			}
			a, b := g.statement(some, 2), g.statement(some, 2)
			_, okA := s.lay().term(a.text)
			_, okB := s.lay().term(b.text)
			if !okA || !okB {
				continue
			}
			mixed := g.odds(2)
			said, ok := s.holdsApart(a, b, g, mixed)
			met[fmt.Sprint("beside ", ok, " mixed ", mixed)]++
			if ok && !a.query && !b.query {
				met["changes"]++
			}
			if ok && a.query != b.query && len(some) == 1 {
				met["a query and a change of one table"]++
			}
			if ok && len(said) > 20 {
				met["rows"]++
			}
		}
	}
	met.meets(t, 600, "beside true mixed true", "beside true mixed false", "beside false mixed true", "beside false mixed false")
	met.meets(t, 200, "changes", "rows")
	met.meets(t, 20, "a query and a change of one table")
}

// narrow makes a statement over t (a, b, c) that looks at few rows, and at those along an index mostly.
func (g *maker) narrow() query {
	n := func() string { return fmt.Sprint(g.IntN(16)) }
	where := func() string {
		column := pick(g, "a", "a", "b", "c")
		return pick(g,
			column+" = "+n(),
			column+" >= "+n()+" AND "+column+pick(g, " < ", " <= ")+n(),
			column+" > "+n()+" AND "+column+" < "+n(),
			column+" < "+n(), column+" > "+n(),
			"b = "+n()+" AND c > "+n(), "b = "+n()+" AND c = "+n(), "a = NULL")
	}
	value := func() string {
		return pick(g, "a", "b", "c", n(), n(), "a + 1", "b - 1", "12 / (a - 3)", "NULL")
	}
	switch g.IntN(8) {
	case 0:
		return query{text: "DELETE FROM t WHERE " + where()}
	case 1, 2:
		return query{text: "INSERT INTO t VALUES (" + n() + ", " + n() + ", " + n() + ")"}
	case 3, 4:
		return query{text: "UPDATE t SET " + pick(g, "a", "b", "c") + " = " + value() + " WHERE " + where()}
	case 5:
		return query{text: "SELECT x.b, y.a FROM t AS x JOIN t AS y ON y.a = x." + pick(g, "b", "c") + " WHERE x." + pick(g, "a", "b") + " = " + n(), query: true}
	}
	return query{text: "SELECT c, a FROM t WHERE " + where() + " ORDER BY a DESC", desc: []bool{true}, query: true}
}

// layNarrow lays a table with two indexes, with some rows.
func layNarrow(t *testing.T, seed uint64, most int) *world {
	w := empty(t, most)
	g := newMaker(seed)
	txn := w.x.Begin()
	d := desc("t", unique("i", 0), index("j", 1, 2))
	d.Cols = append(d.Cols, api.Column{Name: "c", Type: api.Int})
	w.is("Make", w.x.Make(txn, d))
	for range 4 + g.IntN(9) {
		w.x.Apply(txn, "t", []api.Change{{Row: ints(g.Int64N(16), g.Int64N(16), g.Int64N(16))}})
	}
	w.commit(txn)
	return w
}

// holdsPlansApart runs two plans beside each other, and holds that each answers the same, had the other been ahead of it, or not been at all; false: one was Blocked, or hadn't ended for long.
func holdsPlansApart(t *testing.T, g *maker, lay func() *world, plans [2]api.Plan) bool {
	t.Helper()
	w := lay()
	runs := []*vm.Run{w.m.Start(w.x.Begin(), plans[0]), w.m.Start(w.x.Begin(), plans[1])}
	done := 0
	for range 3000 {
		n := g.IntN(2)
		if done != 0 {
			n = 2 - done
		}
		state := runs[n].Step()
		if state == api.Done {
			done |= 1 << n
		}
		if state == api.Blocked || done == 3 {
			break
		}
	}
	if done != 3 {
		return false
	}
	for _, order := range [][]int{{0, 1}, {1, 0}, {0}, {1}} {
		v := lay()
		for _, n := range order {
			r := v.m.Start(v.x.Begin(), plans[n])
			v.told("alone", last(r), "D")
			v.commit(v.x.Open()[0])
			if got, want := fmt.Sprint(r.Result()), fmt.Sprint(runs[n].Result()); got != want {
				t.Fatalf("P24.5: in the order %v the plan %d answers %s, not %s: %+v", order, n, got, want, plans)
			}
		}
	}
	return true
}

// TestP24_5Narrow runs statements that look at few rows of one table beside each other: many of them don't wait.
func TestP24_5Narrow(t *testing.T) {
	t.Parallel()
	g := newMaker(55)
	met := tally{}
	for n := range uint64(8000) {
		most := pick(g, 8, 12, 20)
		lay := func() *world { return layNarrow(t, n, most) }
		a, b := g.narrow(), g.narrow()
		w := lay()
		if holdsPlansApart(t, g, lay, [2]api.Plan{w.plan(a.text), w.plan(b.text)}) {
			met[fmt.Sprint("queries ", a.query, " ", b.query)]++
		} else {
			met["blocked"]++
		}
	}
	met.meets(t, 300, "blocked", "queries true true", "queries true false", "queries false true", "queries false false")
}

// guards tells whether nothing leads to the changes past their guard, which layer 22 doesn't ask.
func guards(p api.Plan) bool {
	return !slices.ContainsFunc(p.Code, func(x api.Instr) bool {
		jumps := x.Op == api.InJump || x.Op == api.InNext || x.Op == api.InTest
		return jumps && p.Code[x.To].Op == api.InApply
	})
}

// TestP24_5Covered runs plans beside each other that no statement has, but that are covered.
func TestP24_5Covered(t *testing.T) {
	t.Parallel()
	g := newMaker(77)
	met := tally{}
	for n := range uint64(20000) {
		lay := func() *world { return layNarrow(t, n, 12) }
		w := lay()
		plans := [2]api.Plan{g.made(w), g.made(w)}
		if cover.Check(plans[0]) != api.OK || cover.Check(plans[1]) != api.OK || !guards(plans[0]) || !guards(plans[1]) {
			continue
		}
		met[fmt.Sprint("apart ", holdsPlansApart(t, g, lay, plans))]++
	}
	met.meets(t, 1000, "apart true", "apart false")
}
