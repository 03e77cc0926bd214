package catalog

import (
	"iter"
	"slices"

	"hasp/api"
	"hasp/schema"
	"hasp/table"
)

// The system tables, as schema.System gives them.
const (
	systables = iota
	syscolumns
	sysindexes
	systems
)

// ownerColumn tells in which column of a system table a table's name stands.
var ownerColumn = [systems]int{systables: 0, syscolumns: 0, sysindexes: 1}

// tell lets the system tables tell what there is of the table of a name, and gives what takes these changes back.
func (s *Store) tell(name string) []func() {
	var back []func()
	for n, list := range s.wanted(name) {
		back = append(back, s.hold(n, name, list...))
	}
	return back
}

// wanted gives the rows that the system tables are to have of the table of a name: none, if it isn't there.
func (s *Store) wanted(name string) (list [systems][][]api.Value) {
	t, code := s.users(name)
	if code != api.OK {
		return list
	}
	desc := t.Desc()
	list[systables] = [][]api.Value{schema.TableRow(desc)}
	list[syscolumns] = schema.ColumnRows(desc)
	for i := range desc.Indexes {
		list[sysindexes] = append(list[sysindexes], schema.IndexRow(desc, i))
	}
	return list
}

// hold lets a system table hold just these rows of the table of a name, in their order, and gives what takes that back. Those that stand there in order stay under their numbers, the others go; those that are missing are added behind them.
func (s *Store) hold(n int, name string, missing ...[]api.Value) func() {
	t := s.system[n]
	var list []api.Change
	for id, row := range all(t) {
		switch {
		case row[ownerColumn[n]].Text != name:
		case len(missing) > 0 && slices.Equal(row, missing[0]):
			missing = missing[1:]
		default:
			list = append(list, api.Change{Id: id, Del: true})
		}
	}
	for _, row := range missing {
		list = append(list, api.Change{Row: row})
	}
	back, _ := t.Apply(list)
	return func() { t.Undo(back) }
}

// all goes through a table's rows by their numbers.
func all(t *table.Table) iter.Seq2[int, []api.Value] {
	return func(yield func(int, []api.Value) bool) {
		for id, ok := t.Behind(0); ok; id, ok = t.Behind(id) {
			row, _ := t.Row(id)
			if !yield(id, row) {
				return
			}
		}
	}
}

// rows gives a table's rows by their numbers.
func rows(t *table.Table) [][]api.Value {
	var list [][]api.Value
	for _, row := range all(t) {
		list = append(list, row)
	}
	return list
}
