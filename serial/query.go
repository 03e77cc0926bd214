package serial

import (
	"slices"

	"hasp/api"
	"hasp/expr"
	"hasp/logic"
	"hasp/norm"
	"hasp/value"
)

// answer gives the rows that a query means.
func (m *Machine) answer(t api.Term) ([][]api.Value, api.Errno) {
	var list [][]api.Value
	worst := api.OK
	codes := slices.Concat(t.Items, t.Order)
	m.through(t, func(over numbered, code api.Errno) {
		var row []api.Value
		if code == api.OK {
			row, code = expr.Row(codes, over.rows)
		}
		list, worst = append(list, row), logic.Worse(worst, code)
	})
	if worst != api.OK {
		return nil, worst
	}
	items := len(t.Items)
	// Rows alike have to stay as the sources' rows stand.
	slices.SortStableFunc(list, func(a, b []api.Value) int { return compare(a[items:], b[items:], t.Desc) })
	for i, row := range list {
		list[i] = slices.Clone(row[:items])
	}
	return list, api.OK
}

// compare tells which of two rows comes first by what they are sorted by, turned about where desc is true.
func compare(a, b []api.Value, desc []bool) int {
	for i, isTurned := range desc {
		order := value.Compare(a[i], b[i])
		if isTurned {
			order = -order
		}
		if order != 0 {
			return order
		}
	}
	return 0
}

// numbered is rows with their numbers: all of a table, or one of each source.
type numbered struct {
	ids  []int
	rows [][]api.Value
}

// walk goes through all ways to pick a row of each source.
type walk struct {
	sources []numbered
	parts   [][]api.Code // the conditions' conjuncts, by how many sources must have a row for them
	take    func(over numbered, code api.Errno)
}

// through hands on each way to pick a row of each source that nothing keeps out, the first source's rows ahead, with the error that counts of the conditions. Its lists are written over behind that.
func (m *Machine) through(t api.Term, take func(over numbered, code api.Errno)) {
	w := walk{parts: make([][]api.Code, len(t.Tables)+1), take: take}
	for _, desc := range t.Tables {
		w.sources = append(w.sources, m.all(desc.Name))
	}
	for _, cond := range t.Conds {
		for _, c := range norm.Conjuncts(cond) {
			n := needs(c)
			w.parts[n] = append(w.parts[n], c)
		}
	}
	room := len(w.sources)
	w.on(numbered{make([]int, 0, room), make([][]api.Value, 0, room)}, api.OK)
}

// all gives all rows of a table.
func (m *Machine) all(name string) numbered {
	var list numbered
	t, _ := m.store.Table(name)
	for id, ok := t.Behind(0); ok; id, ok = t.Behind(id) {
		row, _ := t.Row(id)
		list.ids, list.rows = append(list.ids, id), append(list.rows, row)
	}
	return list
}

// needs tells how many sources, from the first one on, must have a row for a conjunct to be looked at.
func needs(c api.Code) int {
	over := norm.Sources(c)
	if len(over) == 0 {
		return 0
	}
	return over[len(over)-1] + 1
}

// on goes on where the first sources have a row, and the error of the conjuncts so far is known. Where one that can be looked at now isn't true, nothing that goes on from there is let through; an error lets go on, since a later conjunct may still keep it out.
func (w *walk) on(over numbered, worst api.Errno) {
	place := len(over.rows)
	isThrough, code := sift(w.parts[place], over.rows)
	if !isThrough && code == api.OK {
		return
	}
	worst = logic.Worse(worst, code)
	if place == len(w.sources) {
		w.take(over, worst)
		return
	}
	from := w.sources[place]
	for i, id := range from.ids {
		w.on(numbered{append(over.ids, id), append(over.rows, from.rows[i])}, worst)
	}
}

// sift tells whether conditions let rows through, or the error that counts.
func sift(conds []api.Code, over [][]api.Value) (bool, api.Errno) {
	list := make([]api.Verdict, len(conds))
	for i, c := range conds {
		list[i] = expr.Test(c, over)
	}
	return logic.Sieve(list)
}
