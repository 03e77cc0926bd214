package vm

import (
	"slices"

	"hasp/api"
	"hasp/expr"
	"hasp/logic"
	"hasp/value"
)

func (r *Run) test(x api.Instr) {
	must(isCursor(x.C) && len(x.E) == 1)
	v := expr.Test(x.E[0], r.over())
	switch {
	case v.E != api.OK:
		c := &r.cursors[x.C]
		c.code = logic.Worse(c.code, v.E)
	case v.T != api.True:
		r.place = x.To
	}
}

// tuple gives the error that counts of all cursors'.
func (r *Run) tuple() api.Errno {
	worst := api.OK
	for _, c := range r.cursors {
		worst = logic.Worse(worst, c.code)
	}
	return worst
}

// values gives the values of an instruction's codes; false: there is an error, which is noted. An error of the codes themselves comes ahead of what is wrong with the plan, and that ahead of the tuple's error.
func (r *Run) values(list []api.Code, isRight func() bool) ([]api.Value, bool) {
	worst := r.tuple()
	var row []api.Value
	if worst == api.OK {
		values, code := expr.Row(list, r.over())
		if code != api.OK {
			r.note(code)
			return nil, false
		}
		row = values
	}
	must(isRight())
	r.note(worst)
	return row, worst == api.OK
}

func (r *Run) emit(x api.Instr) {
	row, ok := r.values(x.E, func() bool { return x.N >= 0 && x.N <= len(x.E) })
	if ok {
		// Nothing that is put behind the row may lie on what it is sorted by.
		r.answer = append(r.answer, line{row: row[:x.N:x.N], sorts: row[x.N:]})
	}
}

func (r *Run) sort(x api.Instr) {
	slices.SortStableFunc(r.answer, func(a, b line) int { return compare(a.sorts, b.sorts, x.Desc) })
}

// compare tells which of two rows comes first by what they are sorted by, turned about where desc is true.
func compare(a, b []api.Value, desc []bool) int {
	for n, isTurned := range desc {
		place := value.Compare(at(a, n), at(b, n))
		switch {
		case place == 0:
		case isTurned:
			return -place
		default:
			return place
		}
	}
	return 0
}

// at gives a value of a list; where there is none, Null, so that the rows have one order always.
func at(list []api.Value, n int) api.Value {
	if n >= len(list) {
		return api.Value{}
	}
	return list[n]
}
