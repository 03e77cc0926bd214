package table

import (
	"slices"

	"hasp/api"
	"hasp/schema"
)

// AddIndex adds an index.
func (t *Table) AddIndex(x api.Index) api.Errno { return t.PutIndex(x, len(t.indexes)) }

// PutIndex adds an index at a place.
func (t *Table) PutIndex(x api.Index, at int) api.Errno {
	if at < 0 || at > len(t.indexes) {
		return api.ErrArg
	}
	desc := t.Desc()
	desc.Indexes = slices.Insert(desc.Indexes, at, x)
	if code := schema.Check(desc); code != api.OK {
		return code
	}
	made := newIndex(x)
	for id, row := range t.all() {
		made.put(row, id)
	}
	if made.crowds > 0 {
		return api.ErrUnique
	}
	t.indexes = slices.Insert(t.indexes, at, made)
	return api.OK
}

// DropIndex takes an index away.
func (t *Table) DropIndex(name string) bool {
	at := slices.IndexFunc(t.indexes, func(x *index) bool { return x.Name == name })
	if at < 0 {
		return false
	}
	t.indexes = slices.Delete(t.indexes, at, at+1)
	return true
}
