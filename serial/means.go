package serial

import (
	"hasp/api"
	"hasp/bind"
	"hasp/expr"
	"hasp/logic"
	"hasp/rows"
)

// within does what a statement means, in a transaction.
func (m *Machine) within(txn int, st api.Stmt) api.Reply {
	r := api.Reply{Txn: txn}
	t, code := bind.Bind(st, m.store.Tables())
	switch {
	case code != api.OK:
		r.Code = code
	case t.Kind == api.StSelect:
		r.Rows, r.Code = m.answer(t)
		if r.Code == api.OK {
			r.Names = t.Names
		}
	case t.Kind == api.StInsert, t.Kind == api.StUpdate, t.Kind == api.StDelete:
		r.Count, r.Code = m.change(txn, t)
	default:
		r.Code = m.describe(txn, t)
	}
	return r
}

// describe makes or drops a table or an index.
func (m *Machine) describe(txn int, t api.Term) api.Errno {
	desc := t.Tables[0]
	switch t.Kind {
	case api.StCreateTable:
		if len(m.store.Tables()) >= api.MaxTables {
			return api.ErrFull
		}
		return m.txns.Make(txn, desc)
	case api.StDropTable:
		return m.txns.Drop(txn, desc.Name)
	case api.StCreateIndex:
		return m.txns.AddIndex(txn, desc.Name, t.Index)
	}
	return m.txns.DropIndex(txn, t.Index.Name)
}

// change changes a table's rows, all at once, and tells how many.
func (m *Machine) change(txn int, t api.Term) (int, api.Errno) {
	list, code := m.changes(t)
	if code == api.OK {
		code = m.fault(t, list)
	}
	if code == api.OK {
		code = m.txns.Apply(txn, t.Tables[0].Name, list)
	}
	if code != api.OK {
		return 0, code
	}
	return len(list), api.OK
}

// fault tells what is wrong with changes, once all of them are known.
func (m *Machine) fault(t api.Term, list []api.Change) api.Errno {
	full := api.OK
	to, _ := m.store.Table(t.Tables[0].Name)
	if t.Kind == api.StInsert && to.Len()+len(list) > m.most {
		full = api.ErrFull
	}
	return logic.Worse(full, to.Check(list))
}

// changes gives the changes that a statement means, or the error that counts of all that it meets.
func (m *Machine) changes(t api.Term) ([]api.Change, api.Errno) {
	var list []api.Change
	worst := api.OK
	note := func(c api.Change, code api.Errno) {
		list, worst = append(list, c), logic.Worse(worst, code)
	}
	if t.Kind == api.StInsert {
		for _, codes := range t.Rows {
			row, code := fitting(t, codes, nil)
			note(api.Change{Row: row}, code)
		}
		return list, worst
	}
	m.through(t, func(over numbered, code api.Errno) {
		c := api.Change{Id: over.ids[0], Del: t.Kind == api.StDelete}
		if code == api.OK && !c.Del {
			c.Row, code = fitting(t, t.Rows[0], over.rows)
		}
		note(c, code)
	})
	return list, worst
}

// fitting gives a row that fits the table that a statement changes.
func fitting(t api.Term, codes []api.Code, over [][]api.Value) ([]api.Value, api.Errno) {
	row, code := expr.Row(codes, over)
	if code != api.OK {
		return nil, code
	}
	return row, rows.Fit(t.Tables[0].Cols, row)
}
