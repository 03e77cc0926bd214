package vm_test

import (
	"fmt"
	"slices"
	"strings"
	"testing"

	"hasp/api"
	"hasp/bind"
	"hasp/catalog"
	"hasp/cover"
	"hasp/expr"
	"hasp/logic"
	"hasp/norm"
	"hasp/parse"
	"hasp/plan"
	"hasp/rows"
	"hasp/value"
	"hasp/vm"
)

// term reads and checks a statement; false: it isn't right.
func (w *world) term(s string) (api.Term, bool) {
	st, code := parse.Parse(s)
	if code != api.OK {
		return api.Term{}, false
	}
	x, code := bind.Bind(st, w.s.Tables())
	return x, code == api.OK
}

// tuples gives all ways to pick a row of each table, the first table's numbers beside them.
func tuples(s *catalog.Store, list []api.Table) (ids []int, all [][][]api.Value) {
	if len(list) == 0 {
		return []int{0}, [][][]api.Value{nil}
	}
	t, _ := s.Table(list[0].Name)
	_, rest := tuples(s, list[1:])
	for id, ok := t.Behind(0); ok; id, ok = t.Behind(id) {
		row, _ := t.Row(id)
		for _, tuple := range rest {
			ids, all = append(ids, id), append(all, append([][]api.Value{row}, tuple...))
		}
	}
	return ids, all
}

// through tells whether a statement's conditions let rows through, or which error they meet.
func through(x api.Term, over [][]api.Value) (bool, api.Errno) {
	var verdicts []api.Verdict
	for _, cond := range x.Conds {
		for _, c := range norm.Conjuncts(cond) {
			verdicts = append(verdicts, expr.Test(c, over))
		}
	}
	return logic.Sieve(verdicts)
}

// content is what a table holds, by the rows' numbers.
type content map[int][]api.Value

func (w *world) content(name string) content {
	t, _ := w.s.Table(name)
	c := content{}
	for id, ok := t.Behind(0); ok; id, ok = t.Behind(id) {
		c[id], _ = t.Row(id)
	}
	return c
}

// meant gives what a statement means over what there is: its answer, and what its table holds behind it.
func (w *world) meant(x api.Term, most int) (api.Result, content) {
	if x.Kind == api.StSelect {
		return w.meantQuery(x), nil
	}
	t := x.Tables[0]
	before, after := w.content(t.Name), w.content(t.Name)
	list, code := w.meantChanges(x)
	if code != api.OK {
		return api.Result{Code: code}, before
	}
	held, _ := w.s.Table(t.Name)
	for i, c := range list {
		switch {
		case c.Del:
			delete(after, c.Id)
		case c.Id == 0:
			after[held.Last()+1+i] = c.Row
		default:
			after[c.Id] = c.Row
		}
	}
	switch {
	case hasAlike(t, after):
		return api.Result{Code: api.ErrUnique}, before
	case x.Kind == api.StInsert && len(after) > most:
		return api.Result{Code: api.ErrFull}, before
	}
	return api.Result{Count: len(list)}, after
}

func (w *world) meantQuery(x api.Term) api.Result {
	var r api.Result
	_, all := tuples(w.s, x.Tables)
	for _, over := range all {
		ok, code := through(x, over)
		if ok {
			var row []api.Value
			if row, code = expr.Row(slices.Concat(x.Items, x.Order), over); code == api.OK {
				r.Rows = append(r.Rows, row[:len(x.Items)])
			}
		}
		r.Code = logic.Worse(r.Code, code)
	}
	if r.Code != api.OK {
		return api.Result{Code: r.Code}
	}
	return r
}

// meantChanges gives the changes that a statement means, or the error that counts.
func (w *world) meantChanges(x api.Term) (list []api.Change, worst api.Errno) {
	add := func(id int, codes []api.Code, over [][]api.Value) {
		row, code := expr.Row(codes, over)
		if code == api.OK {
			code = rows.Fit(x.Tables[0].Cols, row)
		}
		worst = logic.Worse(worst, code)
		list = append(list, api.Change{Id: id, Row: row})
	}
	if x.Kind == api.StInsert {
		for _, codes := range x.Rows {
			add(0, codes, nil)
		}
		return list, worst
	}
	ids, all := tuples(w.s, x.Tables)
	for i, over := range all {
		ok, code := through(x, over)
		worst = logic.Worse(worst, code)
		switch {
		case ok && x.Kind == api.StDelete:
			list = append(list, api.Change{Id: ids[i], Del: true})
		case ok:
			add(ids[i], x.Rows[0], over)
		}
	}
	return list, worst
}

// hasAlike tells whether two rows are alike in a unique index.
func hasAlike(t api.Table, c content) bool {
	for _, x := range t.Indexes {
		for a, first := range c {
			for b, second := range c {
				if x.Unique && a < b && !slices.ContainsFunc(x.Cols, func(col int) bool {
					return first[col].Kind == api.Null || value.Compare(first[col], second[col]) != 0
				}) {
					return true
				}
			}
		}
	}
	return false
}

// shown gives an answer as text in which rows that may stand in any order stand in one.
func shown(r api.Result) string {
	var list []string
	for _, row := range r.Rows {
		list = append(list, fmt.Sprint(row))
	}
	slices.Sort(list)
	return fmt.Sprint(int(r.Code), r.Count, " ") + strings.Join(list, " ")
}

// isSorted tells whether the rows stand in order by their last values.
func isSorted(rows [][]api.Value, desc []bool) bool {
	return slices.IsSortedFunc(rows, func(a, b []api.Value) int {
		for i, down := range desc {
			at := len(a) - len(desc) + i
			order := value.Compare(a[at], b[at])
			if down {
				order = -order
			}
			if order != 0 {
				return order
			}
		}
		return 0
	})
}

// tally counts what a test has met.
type tally map[string]int

// meets holds that all of this has been met so often at least.
func (c tally) meets(t *testing.T, least int, what ...string) {
	t.Helper()
	for _, s := range what {
		if c[s] < least {
			t.Errorf("%s: %d times; in all %v", s, c[s], c)
		}
	}
}

// says holds that a run answers what its statement means, and changes its table as that says, in one step, or not at all (P24.3, P24.6).
func (w *world) says(q query, x api.Term, m *vm.Machine, most int, txn int) api.Result {
	w.Helper()
	p, code := plan.Make(x)
	w.is(q.text, code)
	w.is(q.text, cover.Check(p))
	want, after := w.meant(x, most)
	name := x.Tables[0].Name
	now := w.table(name)
	jumps := 0
	r := m.Start(txn, p)
	for state := api.Running; state == api.Running; {
		if state = r.Step(); state == api.Blocked {
			w.Fatalf("%s: Blocked", q.text)
		}
		if then := w.table(name); then != now {
			now = then
			jumps++
		}
	}
	got := r.Result()
	if shown(got) != shown(want) || !isSorted(got.Rows, q.desc) {
		w.Fatalf("P24.6: %s answers %v, not %v, by %+v", q.text, got, want, p)
	}
	if after != nil && fmt.Sprint(w.content(name)) != fmt.Sprint(after) {
		w.Fatalf("P24.6: %s leaves %v, not %v, by %+v", q.text, w.content(name), after, p)
	}
	if jumps > 1 || jumps > 0 && (got.Code != api.OK || x.Kind == api.StSelect) {
		w.Fatalf("P24.3: %s changes its table %d times, with %d", q.text, jumps, got.Code)
	}
	return got
}

// TestP24_6Random runs random statements over random tables, some of them in one transaction, and holds what they answer and leave against what they mean.
func TestP24_6Random(t *testing.T) {
	t.Parallel()
	g := newMaker(1)
	met := tally{}
	for range 900 {
		w := empty(t, 0)
		size := pick(g, 2, 5, 8)
		most := size + g.IntN(4)
		g.lay(w, size)
		m := vm.New(w.s, w.x, w.l, most)
		txn := w.x.Begin()
		for range 14 {
			q := g.statement(w.s.Tables(), 3)
			x, ok := w.term(q.text)
			if !ok {
				continue
			}
			got := w.says(q, x, m, most, txn)
			met[fmt.Sprint("kind ", x.Kind)]++
			met[fmt.Sprint("code ", int(got.Code))]++
			if len(got.Rows) > 1 && len(q.desc) > 0 {
				met["sorted"]++
			}
			if g.odds(3) {
				w.commit(txn)
				txn = w.x.Begin()
			}
		}
		if !w.s.Sound() {
			t.Fatal("not sound")
		}
	}
	met.meets(t, 500, "kind 5", "kind 6", "kind 7", "kind 8", "code 0")
	met.meets(t, 100, "sorted")
	met.meets(t, 30, "code 10", "code 31", "code 32", "code 60", "code 190", "code 191")
}

// TestP24_6Example has the chapter's examples.
func TestP24_6Example(t *testing.T) {
	w := sample(t)
	w.answers("all rows move", w.m.Start(w.x.Begin(), w.plan("UPDATE t SET a = a + 1")), "")
	w.told("all rows move", w.table("t"), "1:2,10 2:3,20 3:4,30")
	w.commit(w.x.Open()[0])
	w.put("u", ints(0, 1), ints(-9, 1))
	for range 2 {
		txn := w.x.Begin()
		w.answers("no error", w.m.Start(txn, w.plan("SELECT 1 / a FROM u WHERE a <> 0 ORDER BY a")), "1 0 0")
		w.commit(txn)
		w.put("u", ints(0, 0))
	}
	w.answers("an error", w.m.Start(w.x.Begin(), w.plan("SELECT 1 / a FROM u")), "error 32 0 0")
}
