package schema_test

import (
	"fmt"
	"math"
	"reflect"
	"slices"
	"strings"
	"testing"

	"hasp/api"
	"hasp/rows"
	"hasp/schema"
)

func text(s string) api.Value { return api.Value{Kind: api.Text, Text: s} }

func whole(n int64) api.Value { return api.Value{Kind: api.Int, Num: n} }

func truth(n int64) api.Value { return api.Value{Kind: api.Bool, Num: n} }

// row gives a row as it is written out.
func row(list ...api.Value) []api.Value { return list }

// grid gives rows as they are written out.
func grid(list ...[]api.Value) [][]api.Value { return list }

// same tells whether rows are alike.
func same(a, b [][]api.Value) bool { return slices.EqualFunc(a, b, slices.Equal) }

// alike tells whether descriptions are alike; a nil list is one without elements.
func alike(a, b api.Table) bool {
	return a.Name == b.Name && slices.Equal(a.Cols, b.Cols) && slices.EqualFunc(a.Indexes, b.Indexes, func(x, y api.Index) bool {
		return x.Name == y.Name && x.Unique == y.Unique && slices.Equal(x.Cols, y.Cols)
	})
}

// shown gives a description of a system table by the document's words.
func shown(t api.Table) string {
	list := []string{}
	for _, c := range t.Cols {
		word := map[int]string{api.Bool: "BOOL", api.Int: "INT", api.Real: "REAL", api.Text: "TEXT"}[c.Type]
		if !c.Required {
			word += " or Null"
		}
		list = append(list, c.Name+" "+word)
	}
	return fmt.Sprint(t.Name, ": ", strings.Join(list, ", "), t.Indexes)
}

func TestP15_2System(t *testing.T) {
	want := []string{
		"systables: name TEXT[]",
		"syscolumns: tbl TEXT, pos INT, name TEXT, type TEXT, required BOOL[]",
		"sysindexes: name TEXT, tbl TEXT, uniq BOOL, cols TEXT[]",
	}
	list := schema.System()
	if len(list) != len(want) {
		t.Fatalf("System gives %d tables", len(list))
	}
	for i, x := range list {
		if shown(x) != want[i] || schema.Check(x) != api.OK {
			t.Errorf("%d: %s, not %s; Check %d", i, shown(x), want[i], schema.Check(x))
		}
	}
}

func TestP15_2IsSystem(t *testing.T) {
	names := []string{"systables", "syscolumns", "sysindexes"}
	for _, name := range names {
		if !schema.IsSystem(name) {
			t.Errorf("IsSystem(%q) is false", name)
		}
		for _, other := range []string{strings.ToUpper(name), name + " ", " " + name, name[1:], name[:len(name)-1], name + "s", name + "\x00", "n/" + name} {
			if schema.IsSystem(other) {
				t.Errorf("IsSystem(%q)", other)
			}
		}
	}
	for _, name := range []string{"", "t", "sys", "name", "tbl", strings.Join(names, ","), strings.Repeat("s", 100000)} {
		if schema.IsSystem(name) {
			t.Errorf("IsSystem(%.40q)", name)
		}
	}
}

func TestP15_2Rows(t *testing.T) {
	x := sample()
	if r := schema.TableRow(x); !slices.Equal(r, row(text("t"))) {
		t.Errorf("TableRow: %v", r)
	}
	want := grid(
		row(text("t"), whole(0), text("a"), text("INT"), truth(1)),
		row(text("t"), whole(1), text("b"), text("TEXT"), truth(0)),
		row(text("t"), whole(2), text("c"), text("BOOL"), truth(1)),
		row(text("t"), whole(3), text("d"), text("REAL"), truth(0)),
	)
	if r := schema.ColumnRows(x); !same(r, want) {
		t.Errorf("ColumnRows: %v, not %v", r, want)
	}
	if r := schema.IndexRow(x, 0); !slices.Equal(r, row(text("i"), text("t"), truth(1), text("d,a,b"))) {
		t.Errorf("IndexRow 0: %v", r)
	}
	if r := schema.IndexRow(x, 1); !slices.Equal(r, row(text("j"), text("t"), truth(0), text("c"))) {
		t.Errorf("IndexRow 1: %v", r)
	}
	// The document's example.
	y := api.Table{Name: "t", Cols: []api.Column{{Name: "a", Type: api.Int, Required: true}, {Name: "b", Type: api.Text}}, Indexes: []api.Index{{Name: "i", Cols: []int{1, 0}, Unique: true}}}
	if r := schema.ColumnRows(y); !same(r, want[:2]) {
		t.Errorf("ColumnRows of the example: %v", r)
	}
	if r := schema.IndexRow(y, 0); !slices.Equal(r, row(text("i"), text("t"), truth(1), text("b,a"))) {
		t.Errorf("IndexRow of the example: %v", r)
	}
}

// TestP15_2Fit looks whether the rows of the greatest descriptions fit the system tables.
func TestP15_2Fit(t *testing.T) {
	x := wide(16, 8, 4)
	long := func(s string) string { return s + strings.Repeat("_", 32-len(s)) }
	x.Name = long(x.Name)
	for i := range x.Cols {
		x.Cols[i].Name = long(x.Cols[i].Name)
	}
	for i := range x.Indexes {
		x.Indexes[i].Name = long(x.Indexes[i].Name)
	}
	system := schema.System()
	if code := rows.Fit(system[0].Cols, schema.TableRow(x)); code != api.OK {
		t.Errorf("TableRow: %d", code)
	}
	columns := schema.ColumnRows(x)
	for i, r := range columns {
		if code := rows.Fit(system[1].Cols, r); code != api.OK || r[1] != whole(int64(i)) {
			t.Errorf("ColumnRows %d: %v, %d", i, r, code)
		}
	}
	if len(columns) != 16 {
		t.Errorf("%d rows of columns", len(columns))
	}
	for i := range x.Indexes {
		r := schema.IndexRow(x, i)
		if code := rows.Fit(system[2].Cols, r); code != api.OK || len(r[3].Text) != 4*32+3 {
			t.Errorf("IndexRow %d: %v, %d", i, r, code)
		}
	}
}

func TestP15_2NoIndex(t *testing.T) {
	for _, i := range []int{math.MinInt, -2, -1, 2, 3, math.MaxInt} {
		if r := schema.IndexRow(sample(), i); len(r) != 0 {
			t.Errorf("IndexRow(%d) = %v", i, r)
		}
	}
	bare := api.Table{Name: "t", Cols: sample().Cols}
	for i := -1; i < 2; i++ {
		if r := schema.IndexRow(bare, i); len(r) != 0 {
			t.Errorf("IndexRow(%d) without indexes = %v", i, r)
		}
	}
}

// TestP15_2WrongDescriptions asks of wrong descriptions that the calls end, and of right ones that their rows are as many as told.
func TestP15_2WrongDescriptions(t *testing.T) {
	small(func(x api.Table) {
		right := schema.Check(x) == api.OK
		if r := schema.TableRow(x); right && len(r) != 1 {
			t.Errorf("TableRow(%v) = %v", x, r)
		}
		if r := schema.ColumnRows(x); right && len(r) != len(x.Cols) {
			t.Errorf("ColumnRows(%v) = %v", x, r)
		}
		for i := -1; i <= 2; i++ {
			if r := schema.IndexRow(x, i); right && (len(r) == 4) != (i >= 0 && i < len(x.Indexes)) {
				t.Errorf("IndexRow(%v, %d) = %v", x, i, r)
			}
		}
	})
	odd := api.Table{Cols: []api.Column{{Type: math.MinInt}, {Type: math.MaxInt}}, Indexes: []api.Index{{Cols: []int{math.MinInt, math.MaxInt, 0}}}}
	schema.TableRow(odd)
	schema.ColumnRows(odd)
	schema.IndexRow(odd, 0)
}

// spoil writes over all rows, their spare room too.
func spoil(list [][]api.Value) {
	for _, r := range list {
		r = r[:cap(r)]
		for i := range r {
			r[i] = api.Value{Kind: 7, Num: -7, Text: "spoilt"}
		}
	}
	clear(list[:cap(list)])
}

// spoilTable writes over a description, its spare room too.
func spoilTable(x api.Table) {
	for _, index := range x.Indexes {
		places := index.Cols[:cap(index.Cols)]
		for i := range places {
			places[i] = -7
		}
	}
	clear(x.Cols[:cap(x.Cols)])
	clear(x.Indexes[:cap(x.Indexes)])
}

func TestP15_4NewRows(t *testing.T) {
	x := sample()
	columns, again := schema.ColumnRows(x), schema.ColumnRows(x)
	first, second, other := schema.IndexRow(x, 0), schema.IndexRow(x, 0), schema.IndexRow(x, 1)
	name, name2 := schema.TableRow(x), schema.TableRow(x)
	for i, r := range columns {
		spoil(grid(r))
		for k := i + 1; k < len(columns); k++ {
			if columns[k][1] != whole(int64(k)) {
				t.Errorf("the rows %d and %d share memory", i, k)
			}
		}
	}
	spoil(columns)
	spoil(grid(first))
	spoil(grid(name))
	if !same(again, schema.ColumnRows(sample())) || !slices.Equal(second, schema.IndexRow(sample(), 0)) || !slices.Equal(other, schema.IndexRow(sample(), 1)) || !slices.Equal(name2, row(text("t"))) {
		t.Error("two answers share memory")
	}
	if !reflect.DeepEqual(x, sample()) {
		t.Errorf("the description has become %v", x)
	}
	system := schema.System()
	for i, s := range system {
		spoilTable(s)
		for _, later := range system[i+1:] {
			if later.Cols[0].Name == "" {
				t.Error("two system tables share memory")
			}
		}
	}
	clear(system)
	TestP15_2System(t)
}
