package plan_test

import (
	"bytes"
	"slices"
	"testing"

	"hasp/api"
	"hasp/expr"
	"hasp/keys"
	"hasp/logic"
	"hasp/rows"
	"hasp/table"
	"hasp/value"
)

// store has tables by their names.
type store map[string]*table.Table

// cursor is a cursor of a machine.
type cursor struct {
	*table.Table
	index     int
	closed    bool
	empty     bool   // a bound is Null
	from, to  []byte // to nil: no end
	last      int    // by the rows: the number at which it stood last
	row       []api.Value
	tuple     api.Errno
	id, steps int
}

// machine runs a plan alone, by chapter 24's words, and asks for no locks.
type machine struct {
	t       *testing.T
	tables  store
	most    int
	plan    api.Plan
	place   int
	cursors [api.MaxFrom]cursor
	code    api.Errno
	rows    [][]api.Value
	sorts   [][]api.Value
	changes []api.Change
	guarded int
}

// outcome is what a statement answers.
type outcome struct {
	code        api.Errno
	rows, sorts [][]api.Value
	count       int
}

// run runs a plan to its end, and tells in how many steps; behind too many it gives up.
func run(t *testing.T, tables store, most int, p api.Plan, limit int) (outcome, int) {
	m := &machine{t: t, tables: tables, most: most, plan: p}
	for i := range m.cursors {
		m.cursors[i].closed = true
	}
	steps := 1
	for ; p.Code[m.place].Op != api.InHalt && steps <= limit; steps++ {
		m.step(p.Code[m.place])
	}
	if m.code != api.OK {
		return outcome{code: m.code}, steps
	}
	return outcome{rows: m.rows, sorts: m.sorts, count: len(m.changes)}, steps
}

// over gives the rows over which codes are evaluated.
func (m *machine) over() [][]api.Value {
	var list [][]api.Value
	for _, c := range m.cursors {
		list = append(list, c.row)
	}
	return list
}

func (m *machine) note(code api.Errno) { m.code = logic.Worse(m.code, code) }

// values gives the values of codes over the rows; false: there is an error, which is noted.
func (m *machine) values(list []api.Code) ([]api.Value, bool) {
	code := api.OK
	for _, c := range m.cursors {
		code = logic.Worse(code, c.tuple)
	}
	if code != api.OK {
		m.note(code)
		return nil, false
	}
	row, code := expr.Row(list, m.over())
	m.note(code)
	return row, code == api.OK
}

// step does an instruction.
func (m *machine) step(x api.Instr) {
	m.place++
	switch x.Op {
	case api.InOpen:
		m.open(x)
	case api.InNext:
		if !m.cursors[x.C].next() {
			m.place = x.To
		}
	case api.InTest:
		if v := expr.Test(x.E[0], m.over()); v.E != api.OK {
			m.cursors[x.C].tuple = logic.Worse(m.cursors[x.C].tuple, v.E)
		} else if v.T != api.True {
			m.place = x.To
		}
	case api.InEmit:
		if row, ok := m.values(x.E); ok {
			m.rows, m.sorts = append(m.rows, row[:x.N]), append(m.sorts, row[x.N:])
		}
	case api.InPick, api.InMake:
		m.change(x)
	case api.InJump:
		m.place = x.To
	case api.InGuard:
		if m.code == api.OK && m.guarded < len(m.changes) {
			m.guarded++
			m.place--
		}
	case api.InApply:
		m.apply()
	case api.InSort:
		m.sort(x.Desc)
	}
}

// prefix gives the values ahead of the first that has an error, whether that is all of them, and whether one of them is Null.
func (m *machine) prefix(list []api.Code) (known []api.Value, all, null bool) {
	for _, c := range list {
		v, code := expr.Eval(c, m.over())
		if code != api.OK {
			return known, false, null
		}
		known = append(known, v)
		null = null || v.Kind == api.Null
	}
	return known, true, null
}

func (m *machine) open(x api.Instr) {
	c := cursor{Table: m.tables[x.Table], index: x.Index}
	if c.Table == nil || x.Index < -1 || x.Index >= len(c.Desc().Indexes) {
		m.t.Errorf("%+v opens what isn't there", x)
		c.empty = true
	}
	lo, loAll, loNull := m.prefix(x.Lo)
	hi, hiAll, hiNull := m.prefix(x.Hi)
	c.empty = c.empty || loNull || hiNull
	if c.from = keys.Encode(lo); x.LoOut && loAll && len(lo) > 0 {
		c.from, _ = keys.Behind(c.from)
	}
	if len(hi) > 0 {
		c.to = keys.Encode(hi)
		if !x.HiOut || !hiAll {
			c.to, _ = keys.Behind(c.to)
		}
	}
	m.cursors[x.C] = c
}

// next goes to the next row; false: there is none.
func (c *cursor) next() bool {
	c.row, c.tuple = nil, api.OK
	if c.closed || c.empty {
		return false
	}
	ok := false
	if c.index < 0 {
		c.last, ok = c.Behind(c.last)
		c.id = c.last
	} else {
		var e api.Entry
		e, ok = c.From(c.index, c.from)
		ok = ok && (c.to == nil || bytes.Compare(e.Key, c.to) < 0)
		c.from, c.id = append(e.Key, 0), e.Id
	}
	if ok {
		c.row, _ = c.Row(c.id)
	}
	c.empty = !ok
	return ok
}

func (m *machine) change(x api.Instr) {
	c := api.Change{}
	if x.Op == api.InPick {
		c.Id, c.Del = m.cursors[0].id, len(x.E) == 0
	}
	row, ok := m.values(x.E)
	if !ok {
		return
	}
	if !c.Del {
		if code := rows.Fit(m.tables[m.plan.Table].Desc().Cols, row); code != api.OK {
			m.note(code)
			return
		}
		c.Row = row
	}
	m.changes = append(m.changes, c)
}

func (m *machine) apply() {
	if m.code != api.OK {
		return
	}
	t := m.tables[m.plan.Table]
	if come, total := grown(t, m.changes); come && total > m.most {
		m.note(api.ErrFull)
	}
	m.note(t.Check(m.changes))
	if m.code == api.OK {
		t.Apply(m.changes)
	}
}

// grown tells whether there are new rows, and how many rows there would be.
func grown(t *table.Table, list []api.Change) (come bool, total int) {
	total = t.Len()
	for _, c := range list {
		if c.Id == 0 {
			come = true
			total++
		}
		if c.Del {
			total--
		}
	}
	return come, total
}

func (m *machine) sort(desc []bool) {
	var order []int
	for i := range m.rows {
		order = append(order, i)
	}
	slices.SortStableFunc(order, func(a, b int) int { return sorting(m.sorts[a], m.sorts[b], desc) })
	var list, sorts [][]api.Value
	for _, i := range order {
		list, sorts = append(list, m.rows[i]), append(sorts, m.sorts[i])
	}
	m.rows, m.sorts = list, sorts
}

// sorting compares what two rows are sorted by.
func sorting(a, b []api.Value, desc []bool) int {
	for i, down := range desc {
		if order := value.Compare(a[i], b[i]); order != 0 {
			if down {
				return -order
			}
			return order
		}
	}
	return 0
}
