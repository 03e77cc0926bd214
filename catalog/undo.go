package catalog

import (
	"slices"

	"hasp/api"
	"hasp/table"
)

// Undo undoes something: what undoes the last step of it runs first.
type Undo struct{ steps []func() }

// Back undoes it.
func (u *Undo) Back() {
	for _, step := range slices.Backward(u.steps) {
		step()
	}
	u.steps = nil
}

// note adds what undoes further steps.
func (u *Undo) note(steps ...func()) { u.steps = append(u.steps, steps...) }

// changed lets the system tables tell what a table has become, and gives what undoes that, with what undoes the change of the table itself.
func (s *Store) changed(name string, back func()) *Undo {
	u := &Undo{}
	// This one runs last: where other calls made the table's rows of the system tables anew meanwhile, the rows that come back under their numbers don't tell what the table is then.
	u.note(func() { s.tell(name) })
	u.note(back)
	u.note(s.tell(name)...)
	return u
}

// The table is looked for anew by its name in all that follows: since the call it may have been dropped, and brought back.

// undoRows undoes changes of a table's rows.
func (s *Store) undoRows(name string, back []api.Change) {
	if t, code := s.users(name); code == api.OK {
		t.Undo(back)
	}
}

// putTable puts a table back.
func (s *Store) putTable(name string, t *table.Table) {
	if !s.taken(t.Desc()) {
		s.tables[name] = t
	}
}

// dropIndex takes an index away again.
func (s *Store) dropIndex(name, index string) {
	if t, code := s.users(name); code == api.OK {
		t.DropIndex(index)
	}
}

// putIndex puts an index back at its place.
func (s *Store) putIndex(name string, x api.Index, at int) {
	t, code := s.users(name)
	if _, _, known := s.index(x.Name); known || code != api.OK {
		return
	}
	if t.PutIndex(x, at) != api.ErrUnique {
		return
	}
	// The rows that are alike in it were so when it went: undoing changes of rows out of their order leaves such. They come back behind the index.
	var gone []api.Change
	for id := range all(t) {
		gone = append(gone, api.Change{Id: id, Del: true})
	}
	back, _ := t.Apply(gone)
	t.PutIndex(x, at)
	t.Undo(back)
}
