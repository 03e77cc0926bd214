package table

import (
	"testing"

	"hasp/api"
)

// filled gives a table with rows, and an index of two levels.
func filled(t *testing.T) *Table {
	x, code := New(api.Table{Name: "t", Cols: []api.Column{{Name: "a", Type: api.Int, Required: true}}, Indexes: []api.Index{{Name: "i", Cols: []int{0}, Unique: true}, {Name: "j", Cols: []int{0}}}})
	for n := range 20 {
		if _, code := x.Apply([]api.Change{{Row: []api.Value{{Kind: api.Int, Num: int64(n)}}}}); code != api.OK {
			t.Fatal(code)
		}
	}
	if code != api.OK || !x.Sound() {
		t.Fatal("the table isn't sound from its beginning on")
	}
	return x
}

// TestP19_7NotSound breaks tables from within: Sound must tell it.
func TestP19_7NotSound(t *testing.T) {
	row := []api.Value{{Kind: api.Int, Num: 7}}
	for name, harm := range map[string]func(*Table){
		"an entry is missing":         func(x *Table) { x.indexes[1].tree.Drop(x.Key(1, row, 8)) },
		"an entry is too many":        func(x *Table) { x.indexes[0].tree.Put(x.Key(0, row, 9), 9) },
		"an entry has another number": func(x *Table) { x.indexes[0].tree.Drop(x.Key(0, row, 8)); x.indexes[0].tree.Put(x.Key(0, row, 8), 9) },
		"an entry has another key": func(x *Table) {
			x.indexes[0].tree.Drop(x.Key(0, row, 8))
			x.indexes[0].tree.Put(next(x.Key(0, row, 8)), 8)
		},
		"a row went without its entry": func(x *Table) { x.rows.Drop(3) },
		"a row came without entries":   func(x *Table) { x.rows.Add([]byte{0, 1, 0, 0, 0, 0, 0, 0, 0}) },
		"a row is Null":                func(x *Table) { x.indexes = nil; x.rows.Set(3, []byte{1}) },
		"a row can't be read":          func(x *Table) { x.indexes = nil; x.rows.Set(3, nil) },
	} {
		x := filled(t)
		if harm(x); x.Sound() {
			t.Errorf("%s, and it is sound", name)
		}
	}
}

// TestP19_7Shapes goes through shapes of trees at the edges of right sizes.
func TestP19_7Shapes(t *testing.T) {
	for _, c := range []struct {
		shape   [][]int
		entries int
		want    bool
	}{
		{[][]int{{0}}, 0, true},
		{[][]int{{1}}, 1, true},
		{[][]int{{8}}, 8, true},
		{[][]int{{9}}, 9, false},
		{[][]int{{3}}, 4, false},
		{[][]int{{1}, {5}}, 5, false},
		{[][]int{{2}, {4, 5}}, 9, true},
		{[][]int{{2}, {8, 8}}, 16, true},
		{[][]int{{2}, {3, 6}}, 9, false},
		{[][]int{{2}, {9, 4}}, 13, false},
		{[][]int{{2}, {4, 5}}, 8, false},
		{[][]int{{3}, {4, 5}}, 9, false},
		{[][]int{{2}, {4, 3}, {4, 4, 4, 4, 4, 4, 4}}, 28, false},
		{[][]int{{2}, {4, 4}, {4, 4, 4, 4, 4, 4, 4, 8}}, 36, true},
		{[][]int{{2}, {4, 4}, {4, 4, 4, 4, 4, 4, 4}}, 28, false},
	} {
		if got := wellShaped(c.shape, c.entries); got != c.want {
			t.Errorf("wellShaped(%v, %d) = %v", c.shape, c.entries, got)
		}
	}
}
