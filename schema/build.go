package schema

import (
	"cmp"
	"slices"
	"strings"

	"hasp/api"
	"hasp/rows"
)

// Build gives a table's description by the rows of the system tables.
func Build(name string, columns, indexes [][]api.Value) (api.Table, api.Errno) {
	if !allFit(syscolumns(), columns) || !allFit(sysindexes(), indexes) {
		return api.Table{}, api.ErrKind
	}
	cols, ok := readColumns(find(columns, func(row []api.Value) bool { return row[columnTable].Text == name }))
	if !ok {
		return api.Table{}, api.ErrArg
	}
	list, ok := readIndexes(find(indexes, func(row []api.Value) bool { return row[indexTable].Text == name }), places(cols))
	if !ok {
		return api.Table{}, api.ErrArg
	}
	t := api.Table{Name: name, Cols: cols, Indexes: list}
	if code := Check(t); code != api.OK {
		return api.Table{}, code
	}
	return t, api.OK
}

// allFit tells whether all rows fit these columns.
func allFit(cols []api.Column, list [][]api.Value) bool {
	return !slices.ContainsFunc(list, func(row []api.Value) bool { return rows.Fit(cols, row) != api.OK })
}

// find gives the rows that are looked for, as they stand, in a list of its own.
func find(list [][]api.Value, is func(row []api.Value) bool) [][]api.Value {
	var found [][]api.Value
	for _, row := range list {
		if is(row) {
			found = append(found, row)
		}
	}
	return found
}

// readColumns gives the columns of a table's rows of syscolumns, by their places; it sorts the list.
func readColumns(list [][]api.Value) (cols []api.Column, ok bool) {
	slices.SortFunc(list, func(a, b []api.Value) int { return cmp.Compare(a[columnPlace].Num, b[columnPlace].Num) })
	for place, row := range list {
		kind := typeOf(row[columnType].Text)
		if kind == api.Null || row[columnPlace].Num != int64(place) {
			return nil, false
		}
		cols = append(cols, api.Column{Name: row[columnName].Text, Type: kind, Required: row[columnRequired].Num == 1})
	}
	return cols, true
}

// places tells at which places columns stand, by their names.
func places(cols []api.Column) map[string]int {
	at := map[string]int{}
	for place, col := range cols {
		at[col.Name] = place
	}
	return at
}

// readIndexes gives the indexes of a table's rows of sysindexes, in their order.
func readIndexes(list [][]api.Value, at map[string]int) (indexes []api.Index, ok bool) {
	for _, row := range list {
		index := api.Index{Name: row[indexName].Text, Unique: row[indexUnique].Num == 1}
		for _, name := range strings.Split(row[indexColumns].Text, comma) {
			place, known := at[name]
			if !known {
				return nil, false
			}
			index.Cols = append(index.Cols, place)
		}
		indexes = append(indexes, index)
	}
	return indexes, true
}
