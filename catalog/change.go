package catalog

import (
	"hasp/api"
	"hasp/table"
)

// Apply changes a table's rows.
func (s *Store) Apply(name string, list []api.Change) (*Undo, api.Errno) {
	t, code := s.users(name)
	if code != api.OK {
		return nil, code
	}
	back, code := t.Apply(list)
	if code != api.OK {
		return nil, code
	}
	u := &Undo{}
	u.note(func() { s.undoRows(name, back) })
	return u, api.OK
}

// Make makes a table.
func (s *Store) Make(t api.Table) (*Undo, api.Errno) {
	made, code := table.New(t)
	if code != api.OK {
		return nil, code
	}
	if s.taken(t) {
		return nil, api.ErrExists
	}
	name := t.Name
	s.tables[name] = made
	return s.changed(name, func() { delete(s.tables, name) }), api.OK
}

// Drop takes a table away.
func (s *Store) Drop(name string) (*Undo, api.Errno) {
	t, code := s.users(name)
	if code != api.OK {
		return nil, code
	}
	delete(s.tables, name)
	return s.changed(name, func() { s.putTable(name, t) }), api.OK
}

// AddIndex adds an index to a table.
func (s *Store) AddIndex(name string, x api.Index) (*Undo, api.Errno) {
	t, code := s.users(name)
	if code != api.OK {
		return nil, code
	}
	if _, _, known := s.index(x.Name); known {
		return nil, api.ErrExists
	}
	if code := t.AddIndex(x); code != api.OK {
		return nil, code
	}
	index := x.Name
	return s.changed(name, func() { s.dropIndex(name, index) }), api.OK
}

// DropIndex takes an index away.
func (s *Store) DropIndex(name string) (*Undo, api.Errno) {
	owner, at, ok := s.index(name)
	if !ok {
		return nil, api.ErrIndex
	}
	t := s.tables[owner]
	x := t.Desc().Indexes[at]
	t.DropIndex(name)
	return s.changed(owner, func() { s.putIndex(owner, x, at) }), api.OK
}
