package catalog_test

import (
	"bytes"
	"fmt"
	"maps"
	"slices"
	"testing"

	"hasp/api"
	"hasp/catalog"
	"hasp/keys"
	"hasp/schema"
	"hasp/table"
)

// sheet is a table in plain lists: the rows under all numbers that were given (nil: none now). It stays as it is: what changes it makes another one.
type sheet struct {
	desc  api.Table
	rows  [][]api.Value
	maker int // which call made the table
}

func (h *sheet) row(id int) []api.Value {
	if h == nil || id < 1 || id > len(h.rows) {
		return nil
	}
	return h.rows[id-1]
}

// with gives the sheet with other rows under some numbers.
func (h *sheet) with(rows map[int][]api.Value) *sheet {
	c := &sheet{desc: h.desc, rows: slices.Clone(h.rows), maker: h.maker}
	for id, row := range rows {
		for len(c.rows) < id {
			c.rows = append(c.rows, nil)
		}
		c.rows[id-1] = row
	}
	return c
}

// indexed gives the sheet with other indexes.
func (h *sheet) indexed(list []api.Index) *sheet {
	c := &sheet{desc: h.desc, rows: h.rows, maker: h.maker}
	c.desc.Indexes = list
	return c
}

// there gives the rows that there are.
func (h *sheet) there() [][]api.Value {
	return slices.DeleteFunc(slices.Clone(h.rows), func(row []api.Value) bool { return row == nil })
}

// crowded tells whether two rows are alike in an index.
func (h *sheet) crowded(x api.Index) bool {
	met := map[string]bool{}
	for _, row := range h.there() {
		var part []api.Value
		for _, c := range x.Cols {
			part = append(part, row[c])
		}
		key := string(keys.Encode(part))
		if slices.ContainsFunc(part, func(v api.Value) bool { return v.Kind == api.Null }) {
			continue
		}
		if met[key] {
			return true
		}
		met[key] = true
	}
	return false
}

func sameIndexes(a, b []api.Index) bool {
	return slices.EqualFunc(a, b, func(x, y api.Index) bool {
		return x.Name == y.Name && x.Unique == y.Unique && slices.Equal(x.Cols, y.Cols)
	})
}

func sameDesc(a, b api.Table) bool {
	return a.Name == b.Name && slices.Equal(a.Cols, b.Cols) && sameIndexes(a.Indexes, b.Indexes)
}

// sameSheet tells whether two tables (nil: none) are alike in all but which numbers were given.
func sameSheet(a, b *sheet) bool {
	if a == nil || b == nil {
		return a == b
	}
	for id := range max(len(a.rows), len(b.rows)) {
		if !slices.Equal(a.row(id+1), b.row(id+1)) {
			return false
		}
	}
	return sameDesc(a.desc, b.desc)
}

// model is a store in plain sheets.
type model struct {
	tables map[string]*sheet
	made   int
}

func newModel() *model { return &model{tables: map[string]*sheet{}} }

// owner tells which table has an index; nothing: none.
func (m *model) owner(index string) string {
	for name, h := range m.tables {
		if slices.ContainsFunc(h.desc.Indexes, func(x api.Index) bool { return x.Name == index }) {
			return name
		}
	}
	return ""
}

// users tells whether rows or indexes of a table may be changed.
func (m *model) users(name string) api.Errno {
	switch {
	case slices.Contains(systemNames, name):
		return api.ErrSystem
	case m.tables[name] == nil:
		return api.ErrTable
	}
	return api.OK
}

var systemNames = []string{"systables", "syscolumns", "sysindexes"}

// make tells what Make is to answer, by the chapter's words.
func (m *model) make(desc api.Table) api.Errno {
	if code := schema.Check(desc); code != api.OK {
		return code
	}
	if m.users(desc.Name) != api.ErrTable {
		return api.ErrExists
	}
	for _, x := range desc.Indexes {
		if m.owner(x.Name) != "" {
			return api.ErrExists
		}
	}
	return api.OK
}

// addIndex tells what AddIndex is to answer, by the chapter's words.
func (m *model) addIndex(name string, x api.Index) api.Errno {
	if code := m.users(name); code != api.OK {
		return code
	}
	if m.owner(x.Name) != "" {
		return api.ErrExists
	}
	h := m.tables[name]
	if code := schema.Check(h.indexed(append(slices.Clone(h.desc.Indexes), x)).desc); code != api.OK {
		return code
	}
	if x.Unique && h.crowded(x) {
		return api.ErrUnique
	}
	return api.OK
}

// deed is a call that was done, and how what it touched stood ahead of it and behind it.
type deed struct {
	undo          *catalog.Undo
	name          string
	ids           []int // of Apply the rows; of the others the whole table is touched
	whole         bool
	before, after *sheet // nil: there was none
}

// may tells whether what a deed touched is as the deed left it.
func (m *model) may(d deed) bool {
	now := m.tables[d.name]
	if d.whole {
		return sameSheet(now, d.after) && m.free(d)
	}
	return now != nil && now.maker == d.after.maker && sameIndexes(now.desc.Indexes, d.after.desc.Indexes) &&
		!slices.ContainsFunc(d.ids, func(id int) bool { return !slices.Equal(now.row(id), d.after.row(id)) })
}

// free tells whether no other table has indexes that a deed would bring back.
func (m *model) free(d deed) bool {
	if d.before == nil {
		return true
	}
	return !slices.ContainsFunc(d.before.desc.Indexes, func(x api.Index) bool {
		owner := m.owner(x.Name)
		return owner != "" && owner != d.name
	})
}

// back undoes a deed.
func (m *model) back(d deed) {
	now := m.tables[d.name]
	switch {
	case !d.whole:
		was := map[int][]api.Value{}
		for _, id := range d.ids {
			was[id] = d.before.row(id)
		}
		m.tables[d.name] = now.with(was)
	case d.before == nil:
		delete(m.tables, d.name)
	case d.after == nil:
		m.tables[d.name] = d.before
	default:
		m.tables[d.name] = now.indexed(d.before.desc.Indexes)
	}
}

// ids gives the numbers of a table's rows.
func ids(x *table.Table) []int {
	var list []int
	for id, ok := x.Behind(0); ok; id, ok = x.Behind(id) {
		list = append(list, id)
	}
	return list
}

// lines gives a table's rows by their numbers.
func lines(x *table.Table) [][]api.Value {
	var list [][]api.Value
	for _, id := range ids(x) {
		row, _ := x.Row(id)
		list = append(list, row)
	}
	return list
}

// told holds what the system tables tell of the tables of these descriptions.
func told(t *testing.T, s *catalog.Store, tables []api.Table) {
	t.Helper()
	var system [3][][]api.Value
	for i, name := range systemNames {
		x, ok := s.Table(name)
		if !ok || !sameDesc(x.Desc(), schema.System()[i]) {
			t.Fatalf("Table(%q) = %v, %v", name, x, ok)
		}
		system[i] = lines(x)
	}
	var want [3][]string
	for _, desc := range tables {
		want[0] = append(want[0], fmt.Sprint(schema.TableRow(desc)))
		for _, row := range schema.ColumnRows(desc) {
			want[1] = append(want[1], fmt.Sprint(row))
		}
		for i := range desc.Indexes {
			want[2] = append(want[2], fmt.Sprint(schema.IndexRow(desc, i)))
		}
		if got, code := schema.Build(desc.Name, system[1], system[2]); code != api.OK || !sameDesc(got, desc) {
			t.Fatalf("the system tables tell %v, %d, not %v", got, code, desc)
		}
	}
	for i, list := range system {
		var got []string
		for _, row := range list {
			got = append(got, fmt.Sprint(row))
		}
		slices.Sort(got)
		slices.Sort(want[i])
		if !slices.Equal(got, want[i]) {
			t.Fatalf("%s holds %v, not %v", systemNames[i], got, want[i])
		}
	}
}

// hold asks a store and its model the same of all.
func hold(t *testing.T, s *catalog.Store, m *model) {
	t.Helper()
	var tables []api.Table
	var dump []api.Dump
	for _, name := range slices.SortedFunc(maps.Keys(m.tables), func(a, b string) int { return bytes.Compare([]byte(a), []byte(b)) }) {
		h := m.tables[name]
		tables = append(tables, h.desc)
		dump = append(dump, api.Dump{Table: h.desc, Rows: h.there()})
		holdTable(t, s, h)
	}
	if got, want := fmt.Sprint(s.Tables()), fmt.Sprint(tables); got != want {
		t.Fatalf("Tables = %s, not %s", got, want)
	}
	if got, want := fmt.Sprint(s.Dump()), fmt.Sprint(dump); got != want {
		t.Fatalf("Dump = %s, not %s", got, want)
	}
	for _, name := range tableNames {
		if x, ok := s.Table(name); ok != (m.users(name) != api.ErrTable) || ok != (x != nil) {
			t.Fatalf("Table(%q) = %v, %v", name, x, ok)
		}
	}
	told(t, s, tables)
	if !s.Sound() {
		t.Fatal("not sound")
	}
}

// holdTable holds a table of a store against its sheet.
func holdTable(t *testing.T, s *catalog.Store, h *sheet) {
	t.Helper()
	x, ok := s.Table(h.desc.Name)
	if !ok || x.Last() != len(h.rows) || x.Len() != len(h.there()) || !sameDesc(x.Desc(), h.desc) {
		t.Fatalf("%s: %v, Last = %d, Len = %d, not %d, %d", h.desc.Name, ok, x.Last(), x.Len(), len(h.rows), len(h.there()))
	}
	for id := range len(h.rows) + 1 {
		if got, ok := x.Row(id + 1); ok != (h.row(id+1) != nil) || !slices.Equal(got, h.row(id+1)) {
			t.Fatalf("%s: Row(%d) = %v, not %v", h.desc.Name, id+1, got, h.row(id+1))
		}
	}
}

// picture reads a store out, the system tables with their rows' numbers too.
func picture(s *catalog.Store) string {
	list := slices.Clone(systemNames)
	for _, desc := range s.Tables() {
		list = append(list, desc.Name)
	}
	p := ""
	for _, name := range list {
		x, _ := s.Table(name)
		p += fmt.Sprintln(x.Desc(), ids(x), lines(x))
	}
	return p
}
