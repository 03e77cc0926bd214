package plan_test

import (
	"fmt"
	"slices"
	"testing"

	"hasp/api"
	"hasp/expr"
	"hasp/logic"
	"hasp/norm"
	"hasp/plan"
	"hasp/rows"
	"hasp/value"
)

// conjuncts gives all parts of a statement's conditions.
func conjuncts(x api.Term) []api.Code {
	var list []api.Code
	for _, c := range x.Conds {
		list = append(list, norm.Conjuncts(c)...)
	}
	return list
}

// tuples gives all ways to pick a row of each table, the first table's numbers beside them.
func tuples(s store, list []api.Table) (ids []int, all [][][]api.Value) {
	if len(list) == 0 {
		return []int{0}, [][][]api.Value{nil}
	}
	t := s[list[0].Name]
	_, rest := tuples(s, list[1:])
	for id, ok := t.Behind(0); ok; id, ok = t.Behind(id) {
		row, _ := t.Row(id)
		for _, tuple := range rest {
			ids, all = append(ids, id), append(all, append([][]api.Value{row}, tuple...))
		}
	}
	return ids, all
}

// through tells whether the conditions let rows through, or which error they meet.
func through(list []api.Code, over [][]api.Value) (bool, api.Errno) {
	var verdicts []api.Verdict
	for _, c := range list {
		verdicts = append(verdicts, expr.Test(c, over))
	}
	return logic.Sieve(verdicts)
}

// meant gives what a statement means (P24.6): its answer, and what its table holds behind it (nil: no table is changed).
func meant(s store, most int, x api.Term) (outcome, map[int][]api.Value) {
	if x.Kind == api.StSelect {
		return meantQuery(s, x), nil
	}
	changes, code := meantChanges(s, x)
	before := held(s, x.Tables[0].Name)
	if code != api.OK {
		return outcome{code: code}, before
	}
	t := s[x.Tables[0].Name]
	after := held(s, x.Tables[0].Name)
	for i, c := range changes {
		switch {
		case c.Del:
			delete(after, c.Id)
		case c.Id == 0:
			after[t.Last()+1+i] = c.Row
		default:
			after[c.Id] = c.Row
		}
	}
	if alike(t.Desc(), after) {
		return outcome{code: api.ErrUnique}, before
	}
	if x.Kind == api.StInsert && len(after) > most {
		return outcome{code: api.ErrFull}, before
	}
	return outcome{count: len(changes)}, after
}

func meantQuery(s store, x api.Term) outcome {
	o := outcome{}
	conds := conjuncts(x)
	_, all := tuples(s, x.Tables)
	for _, over := range all {
		ok, code := through(conds, over)
		if ok {
			var row []api.Value
			row, code = expr.Row(slices.Concat(x.Items, x.Order), over)
			if code == api.OK {
				o.rows, o.sorts = append(o.rows, row[:len(x.Items)]), append(o.sorts, row[len(x.Items):])
			}
		}
		o.code = logic.Worse(o.code, code)
	}
	if o.code != api.OK {
		return outcome{code: o.code}
	}
	return o
}

// meantChanges gives the changes that a statement means, or the error that counts.
func meantChanges(s store, x api.Term) (list []api.Change, worst api.Errno) {
	t := x.Tables[0]
	add := func(id int, codes []api.Code, over [][]api.Value) {
		row, code := expr.Row(codes, over)
		if code == api.OK {
			code = rows.Fit(t.Cols, row)
		}
		worst = logic.Worse(worst, code)
		list = append(list, api.Change{Id: id, Row: row})
	}
	if x.Kind == api.StInsert {
		for _, codes := range x.Rows {
			add(0, codes, nil)
		}
		return list, worst
	}
	ids, all := tuples(s, x.Tables)
	for i, over := range all {
		ok, code := through(conjuncts(x), over)
		worst = logic.Worse(worst, code)
		switch {
		case ok && x.Kind == api.StDelete:
			list = append(list, api.Change{Id: ids[i], Del: true})
		case ok:
			add(ids[i], x.Rows[0], over)
		}
	}
	return list, worst
}

// held gives the rows of a table by their numbers.
func held(s store, name string) map[int][]api.Value {
	list := map[int][]api.Value{}
	t := s[name]
	for id, ok := t.Behind(0); ok; id, ok = t.Behind(id) {
		list[id], _ = t.Row(id)
	}
	return list
}

// alike tells whether two rows are alike in a unique index.
func alike(t api.Table, list map[int][]api.Value) bool {
	for _, x := range t.Indexes {
		for a, first := range list {
			for b, second := range list {
				if x.Unique && a < b && !slices.ContainsFunc(x.Cols, func(col int) bool {
					return first[col].Kind == api.Null || value.Compare(first[col], second[col]) != 0
				}) {
					return true
				}
			}
		}
	}
	return false
}

// sameRows tells whether two answers have the same rows, in the same order as far as they are sorted.
func sameRows(got, want outcome, desc []bool) bool {
	if len(got.rows) != len(want.rows) {
		return false
	}
	shown := func(o outcome) []string {
		var order []int
		for i := range o.rows {
			order = append(order, i)
		}
		slices.SortStableFunc(order, func(a, b int) int { return sorting(o.sorts[a], o.sorts[b], desc) })
		var list, group []string
		for i, at := range order {
			if i > 0 && sorting(o.sorts[order[i-1]], o.sorts[at], desc) != 0 {
				slices.Sort(group)
				list, group = append(append(list, group...), "--"), nil
			}
			group = append(group, fmt.Sprint(o.rows[at]))
		}
		slices.Sort(group)
		return append(list, group...)
	}
	return slices.Equal(shown(got), shown(want)) && slices.IsSortedFunc(got.sorts, func(a, b []api.Value) int { return sorting(a, b, desc) })
}

// steps gives the bound of P23.3.
func steps(s store, x api.Term) int {
	n, r, m := len(x.Tables), 0, len(conjuncts(x))
	for _, t := range x.Tables {
		r = max(r, s[t.Name].Len())
	}
	if x.Kind == api.StInsert {
		n, m = 1, len(x.Rows)
	}
	limit := (20 + 2*m) * n
	for range n {
		limit *= r + 1
	}
	return 200 + limit
}

// played makes a statement's plan, runs it, and holds it against what the statement means; the answer is the plan and what came out.
func played(t *testing.T, s store, most int, what string, x api.Term) (api.Plan, outcome) {
	t.Helper()
	p, code := plan.Make(x)
	if code != api.OK {
		t.Fatalf("%s: %d", what, code)
	}
	holds(t, what, x, p)
	want, after := meant(s, most, x)
	limit := steps(s, x)
	got, took := run(t, s, most, p, limit)
	if took > limit {
		t.Errorf("P23.3: %s: more than %d steps of %+v", what, limit, p)
	}
	if got.code != want.code || got.count != want.count || !sameRows(got, want, x.Desc) {
		t.Errorf("P23.3: %s answers %+v, not %+v, by %+v", what, got, want, p)
	}
	if after != nil {
		if now := held(s, p.Table); fmt.Sprint(now) != fmt.Sprint(after) {
			t.Errorf("P23.3: %s leaves %v, not %v, by %+v", what, now, after, p)
		}
	}
	return p, got
}
