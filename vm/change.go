package vm

import (
	"bytes"

	"hasp/api"
	"hasp/rows"
	"hasp/schema"
	"hasp/table"
)

// target gives the table that the plan changes; false: there is none, or it is a system table.
func (r *Run) target() (*table.Table, bool) {
	if schema.IsSystem(r.plan.Table) {
		return nil, false
	}
	return r.store.Table(r.plan.Table)
}

func (r *Run) hasTarget() bool {
	_, ok := r.target()
	return ok
}

// isAtTarget tells whether the cursor 0 is at a row of the table that the plan changes.
func (r *Run) isAtTarget() bool {
	c := r.cursors[0]
	return r.hasTarget() && c.isOpen && c.table == r.plan.Table && c.row != nil
}

func (r *Run) pick(x api.Instr) {
	row, ok := r.values(x.E, r.isAtTarget)
	switch {
	case !ok:
	case len(x.E) == 0:
		r.changes = append(r.changes, api.Change{Id: r.cursors[0].id, Del: true})
	default:
		r.change(r.cursors[0].id, row)
	}
}

func (r *Run) make(x api.Instr) {
	if row, ok := r.values(x.E, r.hasTarget); ok {
		r.change(0, row)
	}
}

// change adds a change of a row (0: a new one), if what it becomes fits.
func (r *Run) change(id int, row []api.Value) {
	t, _ := r.target()
	if code := rows.Fit(t.Desc().Cols, row); code != api.OK {
		r.note(code)
		return
	}
	r.changes = append(r.changes, api.Change{Id: id, Row: row})
}

func (r *Run) guard(api.Instr) {
	t, ok := r.target()
	must(ok)
	if r.code != api.OK || r.guarded == len(r.changes) {
		return
	}
	r.protect(t, r.changes[r.guarded])
	r.guarded++
	r.place--
}

// protect asks for the locks of all that a change touches.
func (r *Run) protect(t *table.Table, c api.Change) {
	desc := t.Desc()
	if c.Id != 0 {
		r.ask(ResRow(desc.Name, c.Id), api.X)
	}
	for _, s := range t.Spots(c) {
		r.ask(resSpot(desc, s), api.X)
	}
	was, ok := t.Row(c.Id)
	if !ok || c.Del {
		return
	}
	for n := range desc.Indexes {
		key := t.Key(n, c.Row, c.Id)
		if !bytes.Equal(key, t.Key(n, was, c.Id)) {
			r.ask(resSpot(desc, api.Spot{Index: n, Key: key}), api.X)
		}
	}
}

func (r *Run) apply(api.Instr) {
	t, ok := r.target()
	must(ok)
	if r.code != api.OK {
		return
	}
	r.limit(t)
	r.note(t.Check(r.changes))
	if r.code != api.OK {
		return
	}
	r.claim(t)
	r.note(r.txns.Apply(r.txn, r.plan.Table, r.changes))
	r.count = len(r.changes)
}

// limit notes ErrFull, if the new rows are too many. Where that hangs on what other transactions come to, or keeps them from coming in, the table is locked.
func (r *Run) limit(t *table.Table) {
	come, total := 0, t.Len()
	for _, c := range r.changes {
		switch {
		case c.Del:
			total--
		case c.Id == 0:
			come++
		}
	}
	if come == 0 {
		return
	}
	total += come
	if total+r.txns.Gone(r.txn, r.plan.Table) > r.most {
		r.ask(ResTable(r.plan.Table), api.SIX)
	}
	if total > r.most {
		r.note(api.ErrFull)
	}
}

// claim asks for the locks of the new rows ahead of their coming, so that whatever answer that gets the changes are made once.
func (r *Run) claim(t *table.Table) {
	desc, id := t.Desc(), t.Last()
	for _, c := range r.changes {
		if c.Id != 0 {
			continue
		}
		id++
		r.ask(ResRow(desc.Name, id), api.X)
		for n := range desc.Indexes {
			r.ask(resSpot(desc, api.Spot{Index: n, Key: t.Key(n, c.Row, id)}), api.X)
		}
	}
}
