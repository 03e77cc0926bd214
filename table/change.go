package table

import (
	"slices"

	"hasp/api"
	"hasp/rows"
)

// Check tells what is wrong with changes.
func (t *Table) Check(list []api.Change) api.Errno {
	met := map[int]struct{}{}
	var gone, come [][]api.Value
	for _, c := range list {
		if _, twice := met[c.Id]; twice && c.Id != 0 {
			return api.ErrArg
		}
		met[c.Id] = struct{}{}
		if code := t.fault(c); code != api.OK {
			return code
		}
		if was, ok := t.Row(c.Id); ok {
			gone = append(gone, was)
		}
		if !c.Del {
			come = append(come, c.Row)
		}
	}
	for _, x := range t.indexes {
		if x.crowdsBehind(gone, come) > 0 {
			return api.ErrUnique
		}
	}
	return api.OK
}

// fault tells what is wrong with a change by itself.
func (t *Table) fault(c api.Change) api.Errno {
	_, there := t.rows.Get(c.Id)
	switch {
	case c.Id != 0 && !there, c.Id == 0 && c.Del:
		return api.ErrArg
	case c.Del:
		return api.OK
	}
	return rows.Fit(t.cols, c.Row)
}

// Apply makes changes, all or none, and gives those that undo them.
func (t *Table) Apply(list []api.Change) ([]api.Change, api.Errno) {
	if code := t.Check(list); code != api.OK {
		return nil, code
	}
	back := make([]api.Change, len(list))
	for i, c := range list {
		back[i] = t.change(c)
	}
	return back, api.OK
}

// change makes a change that is right, and gives the one that undoes it.
func (t *Table) change(c api.Change) api.Change {
	was, _ := t.Row(c.Id)
	switch {
	case c.Id == 0:
		return api.Change{Id: t.add(c.Row), Del: true}
	case c.Del:
		t.drop(c.Id)
	default:
		t.set(c.Id, c.Row)
	}
	return api.Change{Id: c.Id, Row: was}
}

// Undo undoes changes.
func (t *Table) Undo(list []api.Change) {
	for _, c := range slices.Backward(list) {
		if c.Del {
			t.drop(c.Id)
		} else {
			t.set(c.Id, c.Row)
		}
	}
}

// add adds a row, and gives its number.
func (t *Table) add(row []api.Value) int {
	packed, _ := rows.Encode(t.cols, row)
	id := t.rows.Add(packed)
	for _, x := range t.indexes {
		x.put(row, id)
	}
	return id
}

// set lets a row be what is told, whether it is there or went; a row that doesn't fit, or never was, is passed over.
func (t *Table) set(id int, row []api.Value) {
	packed, code := rows.Encode(t.cols, row)
	if code != api.OK {
		return
	}
	t.drop(id)
	if !t.rows.Back(id, packed) {
		return
	}
	for _, x := range t.indexes {
		x.put(row, id)
	}
}

// drop takes a row out, if it is there.
func (t *Table) drop(id int) {
	row, ok := t.Row(id)
	if !ok {
		return
	}
	for _, x := range t.indexes {
		x.drop(row, id)
	}
	t.rows.Drop(id)
}

// Spots gives the entries that a change touches.
func (t *Table) Spots(c api.Change) []api.Spot {
	if t.fault(c) != api.OK {
		return nil
	}
	was, _ := t.Row(c.Id)
	row := c.Row
	if c.Del {
		row = nil
	}
	var list []api.Spot
	for place, x := range t.indexes {
		list = append(list, x.spots(place, c.Id, was, row)...)
	}
	return list
}
