package catalog

import (
	"slices"

	"hasp/api"
	"hasp/schema"
)

// Sound tells whether everything fits together.
func (s *Store) Sound() bool {
	for _, t := range s.tables {
		if !t.Sound() {
			return false
		}
	}
	return s.indexesUnlike() && s.told()
}

// indexesUnlike tells whether no two indexes have one name.
func (s *Store) indexesUnlike() bool {
	met := map[string]struct{}{}
	for _, t := range s.tables {
		for _, x := range t.Desc().Indexes {
			if _, twice := met[x.Name]; twice {
				return false
			}
			met[x.Name] = struct{}{}
		}
	}
	return true
}

// told tells whether the system tables hold just the rows that tell of the others.
func (s *Store) told() bool {
	if !slices.Equal(s.namesTold(), s.names()) {
		return false
	}
	columns, indexes := rows(s.system[syscolumns]), rows(s.system[sysindexes])
	// Build takes one row for each column and index that it answers: none may be over.
	columnsOver, indexesOver := len(columns), len(indexes)
	for _, desc := range s.Tables() {
		built, code := schema.Build(desc.Name, columns, indexes)
		if code != api.OK || !same(built, desc) {
			return false
		}
		columnsOver -= len(desc.Cols)
		indexesOver -= len(desc.Indexes)
	}
	return columnsOver == 0 && indexesOver == 0
}

// namesTold gives the names of tables that systables tells, in order.
func (s *Store) namesTold() []string {
	var names []string
	for _, row := range all(s.system[systables]) {
		names = append(names, row[ownerColumn[systables]].Text)
	}
	slices.Sort(names)
	return names
}

// same tells whether two descriptions are one.
func same(a, b api.Table) bool {
	return a.Name == b.Name && slices.Equal(a.Cols, b.Cols) && slices.EqualFunc(a.Indexes, b.Indexes, func(x, y api.Index) bool {
		return x.Name == y.Name && x.Unique == y.Unique && slices.Equal(x.Cols, y.Cols)
	})
}
