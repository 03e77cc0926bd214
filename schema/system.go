package schema

import (
	"slices"
	"strings"

	"hasp/api"
)

// The places of what stands in a row of syscolumns.
const (
	columnTable = iota
	columnPlace
	columnName
	columnType
	columnRequired
)

// The places of what stands in a row of sysindexes.
const (
	indexName = iota
	indexTable
	indexUnique
	indexColumns
)

// comma stands between the names of an index's columns.
const comma = ","

// System gives the descriptions of the system tables.
func System() []api.Table {
	return []api.Table{
		{Name: "systables", Cols: []api.Column{needed("name", api.Text)}},
		{Name: "syscolumns", Cols: syscolumns()},
		{Name: "sysindexes", Cols: sysindexes()},
	}
}

// syscolumns gives the columns of that system table.
func syscolumns() []api.Column {
	return []api.Column{
		columnTable:    needed("tbl", api.Text),
		columnPlace:    needed("pos", api.Int),
		columnName:     needed("name", api.Text),
		columnType:     needed("type", api.Text),
		columnRequired: needed("required", api.Bool),
	}
}

// sysindexes gives the columns of that system table.
func sysindexes() []api.Column {
	return []api.Column{
		indexName:    needed("name", api.Text),
		indexTable:   needed("tbl", api.Text),
		indexUnique:  needed("uniq", api.Bool),
		indexColumns: needed("cols", api.Text),
	}
}

// needed gives a column in which no Null stands.
func needed(name string, kind int) api.Column {
	return api.Column{Name: name, Type: kind, Required: true}
}

// IsSystem tells whether a name is a system table's.
func IsSystem(name string) bool {
	return slices.ContainsFunc(System(), func(t api.Table) bool { return t.Name == name })
}

// TableRow gives a table's row of systables.
func TableRow(t api.Table) []api.Value { return []api.Value{text(t.Name)} }

// ColumnRows gives a table's rows of syscolumns.
func ColumnRows(t api.Table) [][]api.Value {
	var list [][]api.Value
	for place, col := range t.Cols {
		list = append(list, []api.Value{
			columnTable:    text(t.Name),
			columnPlace:    {Kind: api.Int, Num: int64(place)},
			columnName:     text(col.Name),
			columnType:     text(typeWord(col.Type)),
			columnRequired: boolean(col.Required),
		})
	}
	return list
}

// IndexRow gives an index's row of sysindexes.
func IndexRow(t api.Table, i int) []api.Value {
	// The columns of an index can be named only where the description has them.
	if i < 0 || i >= len(t.Indexes) || Check(t) != api.OK {
		return nil
	}
	index := t.Indexes[i]
	var names []string
	for _, place := range index.Cols {
		names = append(names, t.Cols[place].Name)
	}
	return []api.Value{
		indexName:    text(index.Name),
		indexTable:   text(t.Name),
		indexUnique:  boolean(index.Unique),
		indexColumns: text(strings.Join(names, comma)),
	}
}

func text(s string) api.Value { return api.Value{Kind: api.Text, Text: s} }

func boolean(b bool) api.Value {
	if b {
		return api.Value{Kind: api.Bool, Num: 1}
	}
	return api.Value{Kind: api.Bool}
}
