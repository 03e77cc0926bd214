package bind

import (
	"slices"

	"hasp/api"
	"hasp/schema"
)

// known is the tables that a statement can name: those that users made, and the system tables.
type known []api.Table

// has tells whether there is a table of that name.
func (k known) has(name string) bool { return k.place(name) >= 0 }

// place tells at which place the table of that name stands; -1: there is none.
func (k known) place(name string) int {
	return slices.IndexFunc(k, func(t api.Table) bool { return t.Name == name })
}

// table gives a copy of a table that must be there.
func (k known) table(name string) api.Table {
	place := k.place(name)
	must(place >= 0, api.ErrTable)
	return copyTable(k[place])
}

// usersTable gives a copy of a table that must be there and be no system table.
func (k known) usersTable(name string) api.Table {
	t := k.table(name)
	must(!schema.IsSystem(name), api.ErrSystem)
	return t
}

// index gives copies of an index, and of the table that has it; false, if no table has one of that name.
func (k known) index(name string) (api.Table, api.Index, bool) {
	for _, t := range k {
		for _, x := range t.Indexes {
			if x.Name == name {
				return copyTable(t), copyIndex(x), true
			}
		}
	}
	return api.Table{}, api.Index{}, false
}

func copyTable(t api.Table) api.Table {
	c := api.Table{Name: t.Name, Cols: slices.Clone(t.Cols)}
	for _, x := range t.Indexes {
		c.Indexes = append(c.Indexes, copyIndex(x))
	}
	return c
}

func copyIndex(x api.Index) api.Index {
	x.Cols = slices.Clone(x.Cols)
	return x
}

// columnOf tells at which place a table's column of that name stands; -1: it has none.
func columnOf(t api.Table, name string) int {
	return slices.IndexFunc(t.Cols, func(c api.Column) bool { return c.Name == name })
}
