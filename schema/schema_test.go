package schema_test

import (
	"math"
	"slices"
	"strconv"
	"strings"
	"testing"

	"hasp/api"
	"hasp/schema"
)

// sample gives a right description: t (a INT NOT NULL, b TEXT, c BOOL NOT NULL, d REAL) with i on d, a, b, unique, and j on c.
func sample() api.Table {
	return api.Table{
		Name:    "t",
		Cols:    []api.Column{{Name: "a", Type: api.Int, Required: true}, {Name: "b", Type: api.Text}, {Name: "c", Type: api.Bool, Required: true}, {Name: "d", Type: api.Real}},
		Indexes: []api.Index{{Name: "i", Cols: []int{3, 0, 1}, Unique: true}, {Name: "j", Cols: []int{2}}},
	}
}

// wide gives a right description with so many columns, indexes and columns of each index.
func wide(columns, indexes, key int) api.Table {
	t := api.Table{Name: "t"}
	for i := range columns {
		t.Cols = append(t.Cols, api.Column{Name: "c" + strconv.Itoa(i), Type: api.Bool + i%4, Required: i%3 == 0})
	}
	for i := range indexes {
		x := api.Index{Name: "i" + strconv.Itoa(i), Unique: i%2 == 0}
		for k := range key {
			x.Cols = append(x.Cols, (i+k)%max(columns, 1))
		}
		t.Indexes = append(t.Indexes, x)
	}
	return t
}

// spoilt is a fault of the sample.
type spoilt struct {
	name  string
	spoil func(t *api.Table)
	code  api.Errno
}

// faults gives faults in the order in which the document names them; two of them can stand in one description.
func faults() []spoilt {
	return []spoilt{
		{"the table's name", func(t *api.Table) { t.Name = "T" }, api.ErrName},
		{"too many columns", func(t *api.Table) { t.Cols = append(wide(13, 0, 0).Cols, t.Cols...) }, api.ErrMany},
		{"name of column 0", func(t *api.Table) { t.Cols[0].Name = "" }, api.ErrName},
		{"type of column 0", func(t *api.Table) { t.Cols[0].Type = api.Null }, api.ErrType},
		{"name of column 1", func(t *api.Table) { t.Cols[1].Name = "order" }, api.ErrName},
		{"type of column 1", func(t *api.Table) { t.Cols[1].Type = 5 }, api.ErrType},
		{"column 1 is named as 0", func(t *api.Table) { t.Cols[1].Name = t.Cols[0].Name }, api.ErrExists},
		{"type of column 3", func(t *api.Table) { t.Cols[3].Type = -1 }, api.ErrType},
		{"column 3 is named as 2", func(t *api.Table) { t.Cols[3].Name = t.Cols[2].Name }, api.ErrExists},
		{"too many indexes", func(t *api.Table) { t.Indexes = append(wide(4, 7, 2).Indexes, t.Indexes...) }, api.ErrMany},
		{"name of index 0", func(t *api.Table) { t.Indexes[0].Name = "1" }, api.ErrName},
		{"too many columns of index 0", func(t *api.Table) { t.Indexes[0].Cols = append([]int{2, 0}, t.Indexes[0].Cols...) }, api.ErrMany},
		{"column 0 of index 0", func(t *api.Table) { t.Indexes[0].Cols[0] = 4 }, api.ErrColumn},
		{"column 1 of index 0 is column 0", func(t *api.Table) { t.Indexes[0].Cols[1] = t.Indexes[0].Cols[0] }, api.ErrExists},
		{"column 2 of index 0", func(t *api.Table) { t.Indexes[0].Cols[2] = -1 }, api.ErrColumn},
		{"name of index 1", func(t *api.Table) { t.Indexes[1].Name = "I" }, api.ErrName},
		{"index 1 is named as 0", func(t *api.Table) { t.Indexes[1].Name = t.Indexes[0].Name }, api.ErrExists},
		{"no columns of index 1", func(t *api.Table) { t.Indexes[1].Cols = nil }, api.ErrMany},
		{"column 0 of index 1", func(t *api.Table) { t.Indexes[1].Cols = []int{math.MaxInt} }, api.ErrColumn},
	}
}

func TestP15_1Faults(t *testing.T) {
	if code := schema.Check(sample()); code != api.OK {
		t.Fatalf("the sample: %d", code)
	}
	for _, f := range faults() {
		x := sample()
		f.spoil(&x)
		if code := schema.Check(x); code != f.code {
			t.Errorf("%s: %d, not %d", f.name, code, f.code)
		}
	}
}

// TestP15_1Order has two faults in each description: the one named first counts.
func TestP15_1Order(t *testing.T) {
	list := faults()
	for i, first := range list {
		for _, second := range list[i+1:] {
			x := sample()
			second.spoil(&x)
			first.spoil(&x)
			if code := schema.Check(x); code != first.code {
				t.Errorf("%s, and %s: %d, not %d", first.name, second.name, code, first.code)
			}
		}
	}
}

func TestP15_1HowMany(t *testing.T) {
	for _, c := range []struct {
		columns, indexes, key int
		code                  api.Errno
	}{
		{0, 0, 0, api.ErrMany}, {1, 0, 0, api.OK}, {15, 0, 0, api.OK}, {16, 0, 0, api.OK}, {17, 0, 0, api.ErrMany}, {100000, 0, 0, api.ErrMany},
		{1, 1, 1, api.OK}, {16, 7, 1, api.OK}, {16, 8, 1, api.OK}, {16, 9, 1, api.ErrMany}, {16, 100000, 1, api.ErrMany},
		{16, 8, 0, api.ErrMany}, {16, 8, 3, api.OK}, {16, 8, 4, api.OK}, {16, 8, 5, api.ErrMany}, {16, 1, 100000, api.ErrMany},
		{4, 8, 4, api.OK}, {3, 1, 4, api.ErrExists}, {1, 1, 2, api.ErrExists},
	} {
		if code := schema.Check(wide(c.columns, c.indexes, c.key)); code != c.code {
			t.Errorf("%d columns, %d indexes of %d: %d, not %d", c.columns, c.indexes, c.key, code, c.code)
		}
	}
}

func TestP15_1Names(t *testing.T) {
	for _, c := range []struct {
		name string
		code api.Errno
	}{
		{"a", api.OK}, {"_", api.OK}, {"_9", api.OK}, {"systables", api.OK}, {strings.Repeat("z", 32), api.OK},
		{"", api.ErrName}, {"A", api.ErrName}, {"aB", api.ErrName}, {"9", api.ErrName}, {"a b", api.ErrName}, {"a,b", api.ErrName}, {"ä", api.ErrName}, {"\xff", api.ErrName}, {"a\x00", api.ErrName}, {"select", api.ErrName}, {"text", api.ErrName}, {"index", api.ErrName},
		{strings.Repeat("z", 33), api.ErrName}, {strings.Repeat("z", 1000000), api.ErrName},
	} {
		for place, put := range []func(x *api.Table){
			func(x *api.Table) { x.Name = c.name },
			func(x *api.Table) { x.Cols[0].Name = c.name },
			func(x *api.Table) { x.Cols[15].Name = c.name },
			func(x *api.Table) { x.Indexes[0].Name = c.name },
			func(x *api.Table) { x.Indexes[7].Name = c.name },
		} {
			x := wide(16, 8, 4)
			put(&x)
			if code := schema.Check(x); code != c.code {
				t.Errorf("%.40q at %d: %d, not %d", c.name, place, code, c.code)
			}
		}
	}
	// The names of a table, a column and an index may be alike.
	if code := schema.Check(api.Table{Name: "a", Cols: []api.Column{{Name: "a", Type: api.Int}}, Indexes: []api.Index{{Name: "a", Cols: []int{0}}}}); code != api.OK {
		t.Errorf("one name for all: %d", code)
	}
}

func TestP15_1Numbers(t *testing.T) {
	for _, kind := range []int{math.MinInt, -1, api.Null, api.Bool, api.Int, api.Real, api.Text, 5, math.MaxInt} {
		want := api.ErrType
		if kind >= 1 && kind <= 4 {
			want = api.OK
		}
		for _, place := range []int{0, 7, 15} {
			x := wide(16, 0, 0)
			x.Cols[place].Type = kind
			if code := schema.Check(x); code != want {
				t.Errorf("the type %d: %d, not %d", kind, code, want)
			}
		}
	}
	for _, at := range []int{math.MinInt, -1, 0, 1, 5, 6, math.MaxInt} {
		want := api.ErrColumn
		if at >= 0 && at < 6 {
			want = api.OK
		}
		x := wide(6, 0, 0)
		x.Indexes = []api.Index{{Name: "i", Cols: []int{2, 3, 4, at}}, {Name: "j", Cols: []int{at}}}
		if code := schema.Check(x); code != want {
			t.Errorf("the place %d: %d, not %d", at, code, want)
		}
	}
}

// wrongs gives what is wrong with a description, all of it, in the document's order.
func wrongs(x api.Table) []api.Errno {
	list := []api.Errno{}
	hold := func(wrong bool, code api.Errno) {
		if wrong {
			list = append(list, code)
		}
	}
	isName := func(s string) bool { return slices.Contains([]string{"t", "a", "b", "i", "j"}, s) }
	hold(!isName(x.Name), api.ErrName)
	hold(len(x.Cols) == 0, api.ErrMany)
	columns := map[string]int{}
	for _, c := range x.Cols {
		hold(!isName(c.Name), api.ErrName)
		hold(c.Type < 1 || c.Type > 4, api.ErrType)
		hold(columns[c.Name] > 0, api.ErrExists)
		columns[c.Name]++
	}
	indexes := map[string]int{}
	for _, index := range x.Indexes {
		hold(!isName(index.Name), api.ErrName)
		hold(indexes[index.Name] > 0, api.ErrExists)
		indexes[index.Name]++
		hold(len(index.Cols) == 0, api.ErrMany)
		met := map[int]int{}
		for _, at := range index.Cols {
			hold(at < 0 || at >= len(x.Cols), api.ErrColumn)
			hold(met[at] > 0, api.ErrExists)
			met[at]++
		}
	}
	return append(list, api.OK)
}

// lists gives all lists of up to two of these.
func lists[T any](these []T) [][]T {
	all := [][]T{nil}
	for _, a := range these {
		all = append(all, []T{a})
		for _, b := range these {
			all = append(all, []T{a, b})
		}
	}
	return all
}

// small calls f with all descriptions of few columns and indexes, most of them wrong.
func small(f func(x api.Table)) {
	var cols []api.Column
	for _, name := range []string{"a", "b", "A"} {
		for _, kind := range []int{api.Text, api.Null} {
			cols = append(cols, api.Column{Name: name, Type: kind, Required: name == "b"})
		}
	}
	var indexes []api.Index
	for _, name := range []string{"i", "j", ""} {
		for _, places := range lists([]int{0, 1, -1}) {
			indexes = append(indexes, api.Index{Name: name, Cols: places, Unique: name == "j"})
		}
	}
	for _, name := range []string{"t", "T"} {
		for _, c := range lists(cols) {
			for _, x := range lists(indexes) {
				f(api.Table{Name: name, Cols: c, Indexes: x})
			}
		}
	}
}

func TestP15_1AllSmall(t *testing.T) {
	met := map[api.Errno]int{}
	small(func(x api.Table) {
		want := wrongs(x)[0]
		met[want]++
		if code := schema.Check(x); code != want {
			t.Errorf("%v: %d, not %d", x, code, want)
		}
	})
	for _, code := range []api.Errno{api.OK, api.ErrName, api.ErrMany, api.ErrType, api.ErrExists, api.ErrColumn} {
		if met[code] == 0 {
			t.Errorf("no description has %d", code)
		}
	}
}
