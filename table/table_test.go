package table_test

import (
	"bytes"
	"fmt"
	"math"
	"slices"
	"strings"
	"testing"

	"hasp/api"
	"hasp/keys"
	"hasp/schema"
	"hasp/table"
)

// pairs is a table of two columns, with a unique index on the first one.
func pairs() api.Table {
	return api.Table{
		Name:    "t",
		Cols:    []api.Column{{Name: "a", Type: api.Int}, {Name: "b", Type: api.Text, Required: true}},
		Indexes: []api.Index{{Name: "i", Cols: []int{0}, Unique: true}, {Name: "j", Cols: []int{1, 0}}},
	}
}

func pair(n int64, s string) []api.Value { return []api.Value{whole(n), text(s)} }

// add is a change with a new row.
func add(row ...api.Value) api.Change { return api.Change{Row: row} }

func del(id int) api.Change { return api.Change{Id: id, Del: true} }

func set(id int, row ...api.Value) api.Change { return api.Change{Id: id, Row: row} }

func TestP19_1New(t *testing.T) {
	x, m := begin(t, pairs())
	hold(t, x, m)
	apply(t, x, m, add(pair(1, "x")...), add(pair(2, "y")...))
	hold(t, x, m)
	y, n := begin(t, pairs())
	hold(t, y, n)
	hold(t, x, m)
}

// wrong gives descriptions that aren't right.
func wrong() []api.Table {
	var list []api.Table
	spoil := func(by func(*api.Table)) {
		x := pairs()
		by(&x)
		list = append(list, x)
	}
	spoil(func(x *api.Table) { x.Name = "" })
	spoil(func(x *api.Table) { x.Name = "select" })
	spoil(func(x *api.Table) { x.Cols = nil })
	spoil(func(x *api.Table) { x.Cols = make([]api.Column, 17) })
	spoil(func(x *api.Table) { x.Cols[1].Name = "B" })
	spoil(func(x *api.Table) { x.Cols[1].Name = "a" })
	spoil(func(x *api.Table) { x.Cols[0].Type = api.Null })
	spoil(func(x *api.Table) { x.Cols[0].Type = 5 })
	spoil(func(x *api.Table) { x.Indexes = make([]api.Index, 9) })
	spoil(func(x *api.Table) { x.Indexes[0].Name = "1" })
	spoil(func(x *api.Table) { x.Indexes[1].Name = "i" })
	spoil(func(x *api.Table) { x.Indexes[0].Cols = nil })
	spoil(func(x *api.Table) { x.Indexes[0].Cols = []int{2} })
	spoil(func(x *api.Table) { x.Indexes[0].Cols = []int{-1} })
	spoil(func(x *api.Table) { x.Indexes[0].Cols = []int{1, 1} })
	return append(list, api.Table{})
}

func TestP19_1Wrong(t *testing.T) {
	for _, desc := range wrong() {
		want := schema.Check(desc)
		if x, code := table.New(desc); x != nil || code != want || code == api.OK {
			t.Errorf("New(%v) = %v, %d, not %d", desc, x, code, want)
		}
	}
}

// TestP19_1Numbers holds the numbers of rows: those that went aren't given again.
func TestP19_1Numbers(t *testing.T) {
	x, m := begin(t, pairs())
	for n := range 40 {
		apply(t, x, m, add(pair(int64(n), "x")...))
	}
	hold(t, x, m)
	for _, id := range []int{40, 39, 7, 1, 20} {
		apply(t, x, m, del(id))
		hold(t, x, m)
	}
	if x.Len() != 35 || x.Last() != 40 {
		t.Errorf("Len = %d, Last = %d", x.Len(), x.Last())
	}
	back, _ := apply(t, x, m, add(pair(100, "")...))
	if back[0].Id != 41 {
		t.Errorf("%v", back)
	}
	for _, id := range []int{math.MinInt, math.MinInt + 1, -1, 0, 42, math.MaxInt - 1, math.MaxInt} {
		if row, ok := x.Row(id); ok || len(row) > 0 {
			t.Errorf("Row(%d) = %v, %v", id, row, ok)
		}
		next, ok := x.Behind(id)
		if want := map[bool]int{true: 2}[id < 1]; next != want || ok != (id < 1) {
			t.Errorf("Behind(%d) = %d, %v", id, next, ok)
		}
	}
}

func TestP19_2Example(t *testing.T) {
	desc := api.Table{Name: "t", Cols: []api.Column{{Name: "a", Type: api.Int}}, Indexes: []api.Index{{Name: "i", Cols: []int{0}, Unique: true}}}
	x, m := begin(t, desc)
	apply(t, x, m, add(whole(1)), add(whole(2)))
	if code := x.Check([]api.Change{set(1, whole(2))}); code != api.ErrUnique {
		t.Errorf("%d", code)
	}
	apply(t, x, m, set(1, whole(2)))
	apply(t, x, m, set(1, whole(2)), set(2, whole(1)))
	if row, _ := x.Row(1); row[0] != whole(2) {
		t.Errorf("%v", row)
	}
	apply(t, x, m, add(api.Value{}), add(api.Value{}))
	apply(t, x, m, set(1, api.Value{}))
	hold(t, x, m)
}

// faults gives changes of a table with the rows 1 and 2, each with what is wrong with it by itself.
func faults() map[api.Errno][]api.Change {
	return map[api.Errno][]api.Change{
		api.ErrArg:   {del(0), del(-1), del(3), set(-1, pair(7, "")...), set(3, pair(7, "")...), set(math.MinInt), del(math.MaxInt), {Row: pair(7, ""), Del: true}},
		api.ErrArity: {add(), add(whole(1)), add(whole(1), text(""), text("")), set(1), set(2, whole(7))},
		api.ErrNull:  {add(whole(7), api.Value{}), set(1, api.Value{}, api.Value{})},
		api.ErrType:  {add(text(""), text("")), add(api.Value{}, truth(1)), set(2, point(1), text(""))},
		api.ErrKind:  {add(api.Value{Kind: 5}, text("")), set(2, whole(1), api.Value{Kind: -1}), add(api.Value{Kind: api.Null, Num: 1}, text(""))},
		api.ErrLong:  {add(whole(1), text(strings.Repeat("a", 201)))},
	}
}

// TestP19_2Faults goes through all pairs of faults: the first one counts, ahead of rows that are alike.
func TestP19_2Faults(t *testing.T) {
	x, m := begin(t, pairs())
	apply(t, x, m, add(pair(1, "x")...), add(pair(2, "y")...))
	pass := func(list ...api.Change) { apply(t, x, m, list...) }
	for _, first := range faults() {
		for _, a := range first {
			pass(a)
			pass(add(pair(2, "z")...), a)
			pass(a, add(pair(2, "z")...))
			pass(del(1), a)
			for _, second := range faults() {
				for _, b := range second {
					pass(a, b)
				}
			}
		}
	}
	for code, list := range faults() {
		for _, c := range list {
			if got := x.Check([]api.Change{c}); got != code && code != api.ErrKind {
				t.Errorf("Check(%v) = %d, not %d", c, got, code)
			}
		}
	}
	hold(t, x, m)
}

// TestP19_2Twice has changes of one row, of which the second one is refused, whatever it is.
func TestP19_2Twice(t *testing.T) {
	x, m := begin(t, pairs())
	apply(t, x, m, add(pair(1, "x")...), add(pair(2, "y")...))
	for _, a := range []api.Change{del(1), set(1, pair(5, "")...), set(1, pair(1, "x")...)} {
		for _, b := range []api.Change{del(1), set(1, pair(6, "")...), set(1)} {
			for _, list := range [][]api.Change{{a, b}, {a, del(2), b}, {a, add(pair(9, "")...), b, add()}} {
				if _, code := apply(t, x, m, list...); code != api.ErrArg {
					t.Errorf("%v: %d", list, code)
				}
			}
		}
	}
	if _, code := apply(t, x, m, add(pair(3, "")...), add(pair(4, "")...), add(pair(5, "")...)); code != api.OK {
		t.Errorf("three new rows: %d", code)
	}
	if _, code := apply(t, x, m); code != api.OK {
		t.Errorf("no change: %d", code)
	}
	hold(t, x, m)
}

// TestP19_2Unique has rows that are alike in one of several unique indexes.
func TestP19_2Unique(t *testing.T) {
	desc := api.Table{Name: "t", Indexes: []api.Index{{Name: "i", Cols: []int{0, 1}, Unique: true}, {Name: "j", Cols: []int{1}}, {Name: "k", Cols: []int{2}, Unique: true}}}
	for _, kind := range []int{api.Int, api.Text, api.Real} {
		desc.Cols = append(desc.Cols, api.Column{Name: string(rune('a' + kind)), Type: kind})
	}
	x, m := begin(t, desc)
	apply(t, x, m, add(whole(1), text("a"), point(0)), add(whole(1), text("b"), point(1)))
	for _, c := range []struct {
		list []api.Change
		want api.Errno
	}{
		{[]api.Change{add(whole(1), text("a"), point(2))}, api.ErrUnique},
		{[]api.Change{add(whole(2), text("a"), point(0))}, api.ErrUnique},
		{[]api.Change{add(whole(2), text("a"), point(math.Copysign(0, -1)))}, api.ErrUnique},
		{[]api.Change{add(whole(2), text("a"), point(2))}, api.OK},
		{[]api.Change{add(whole(1), text("a\x00"), point(2))}, api.OK},
		{[]api.Change{add(whole(1), api.Value{}, point(2)), add(whole(1), api.Value{}, point(3))}, api.OK},
		{[]api.Change{add(api.Value{}, text("a"), point(2)), add(api.Value{}, text("a"), point(3))}, api.OK},
		{[]api.Change{add(api.Value{}, text("a"), point(2)), add(api.Value{}, text("a"), point(2))}, api.ErrUnique},
		{[]api.Change{add(api.Value{}, api.Value{}, api.Value{}), add(api.Value{}, api.Value{}, api.Value{})}, api.OK},
		{[]api.Change{del(1), add(whole(1), text("a"), point(0))}, api.OK},
		{[]api.Change{add(whole(1), text("a"), point(0)), del(1)}, api.OK},
		{[]api.Change{del(2), add(whole(1), text("a"), point(7))}, api.ErrUnique},
		{[]api.Change{set(1, whole(1), text("a"), point(0))}, api.OK},
		{[]api.Change{set(1, whole(1), text("b"), point(0)), set(2, whole(1), text("a"), point(1))}, api.OK},
		{[]api.Change{set(1, whole(1), text("b"), point(0)), set(2, whole(1), text("b"), point(1))}, api.ErrUnique},
		{[]api.Change{set(2, whole(3), text("c"), point(0))}, api.ErrUnique},
		{[]api.Change{set(2, whole(3), text("c"), point(0)), set(1, whole(3), text("d"), point(9))}, api.OK},
		{[]api.Change{add(whole(5), text("c"), point(5)), add(whole(5), text("c"), point(6))}, api.ErrUnique},
	} {
		if code := x.Check(c.list); code != c.want {
			t.Errorf("Check(%v) = %d, not %d", c.list, code, c.want)
		}
		if back, code := apply(t, x, m, c.list...); code == api.OK {
			x.Undo(back)
			m.undo(back)
		}
		hold(t, x, m)
	}
}

// TestP19_3Undo undoes what Apply answered, the last first.
func TestP19_3Undo(t *testing.T) {
	x, m := begin(t, pairs())
	apply(t, x, m, add(pair(1, "x")...), add(pair(2, "y")...), add(pair(3, "z")...))
	first := m.clone()
	a, _ := apply(t, x, m, set(1, pair(2, "x")...), set(2, pair(1, "w")...), del(3), add(pair(3, "v")...))
	if got := fmt.Sprint(a); got != "[{1 [{2 1 } {4 0 x}] false} {2 [{2 2 } {4 0 y}] false} {3 [{2 3 } {4 0 z}] false} {4 [] true}]" {
		t.Errorf("Apply = %s", got)
	}
	second := m.clone()
	b, _ := apply(t, x, m, del(4), add(pair(3, "u")...), set(1, pair(9, "t")...))
	hold(t, x, m)
	x.Undo(b)
	second.rows = append(second.rows, nil)
	hold(t, x, second)
	x.Undo(a)
	first.rows = append(first.rows, nil, nil)
	hold(t, x, first)
	x.Undo(nil)
	hold(t, x, first)
	if back, _ := apply(t, x, first, add(pair(8, "")...)); back[0].Id != 6 {
		t.Errorf("%v", back)
	}
}

// TestP19_3OutOfOrder undoes changes of other rows than those that came behind: rows that are alike may come of it.
func TestP19_3OutOfOrder(t *testing.T) {
	x, m := begin(t, pairs())
	apply(t, x, m, add(pair(1, "x")...), add(pair(2, "y")...))
	a, _ := apply(t, x, m, del(1))
	b, _ := apply(t, x, m, add(pair(1, "z")...))
	x.Undo(a)
	m.undo(a)
	hold(t, x, m)
	for _, list := range [][]api.Change{nil, {add(pair(5, "")...)}, {set(2, pair(6, "")...)}, {set(1, pair(1, "")...)}, {add(pair(1, "")...), del(1)}} {
		if _, code := apply(t, x, m, list...); code != api.ErrUnique {
			t.Errorf("%v: %d", list, code)
		}
	}
	for _, list := range [][]api.Change{{del(1)}, {del(3)}, {set(3, pair(7, "")...)}, {set(1, api.Value{}, text("n"))}} {
		if code := x.Check(list); code != api.OK {
			t.Errorf("%v: %d", list, code)
		}
	}
	if code := x.PutIndex(api.Index{Name: "k", Cols: []int{0}, Unique: true}, 0); code != api.ErrUnique {
		t.Errorf("PutIndex: %d", code)
	}
	x.Undo(b)
	m.undo(b)
	hold(t, x, m)
	if _, code := apply(t, x, m, add(pair(5, "")...)); code != api.OK {
		t.Errorf("%d", code)
	}
}

// TestP19_3Others hands lists to Undo that Apply never answered: of them it is held but that they end, and leave the table sound.
func TestP19_3Others(t *testing.T) {
	x, m := begin(t, pairs())
	apply(t, x, m, add(pair(1, "x")...), add(pair(2, "y")...))
	for _, list := range faults() {
		for _, c := range list {
			x.Undo([]api.Change{c})
			if !x.Sound() {
				t.Errorf("behind Undo of %v", c)
			}
		}
	}
	x.Undo([]api.Change{del(1), del(1), set(1, pair(4, "")...), set(1, pair(5, "")...), set(9, pair(5, "")...), add(pair(6, "")...)})
	if !x.Sound() || x.Last() != 2 {
		t.Errorf("Sound = %v, Last = %d", x.Sound(), x.Last())
	}
}

func TestP19_4Key(t *testing.T) {
	x, m := begin(t, pairs())
	apply(t, x, m, add(pair(1, "x")...), add(pair(2, "x")...), add(pair(3, "y")...))
	long := append(pair(7, "s"), truth(1))
	for _, c := range []struct {
		index int
		row   []api.Value
		id    int
		want  []api.Value
	}{
		{0, pair(7, "s"), 5, []api.Value{whole(7), whole(5)}},
		{1, pair(7, "s"), 5, []api.Value{text("s"), whole(7), whole(5)}},
		{1, long, -5, []api.Value{text("s"), whole(7), whole(-5)}},
		{0, pair(7, "s")[:1], math.MaxInt, []api.Value{whole(7), whole(math.MaxInt)}},
		{0, []api.Value{{}}, math.MinInt, []api.Value{{}, whole(math.MinInt)}},
		{0, []api.Value{text("a\x00")}, 0, []api.Value{text("a\x00"), whole(0)}},
		{0, nil, 5, nil},
		{1, pair(7, "s")[:1], 5, nil},
		{2, pair(7, "s"), 5, nil},
		{-1, pair(7, "s"), 5, nil},
		{math.MaxInt, pair(7, "s"), 5, nil},
		{math.MinInt, nil, 5, nil},
	} {
		if got := x.Key(c.index, c.row, c.id); !bytes.Equal(got, keys.Encode(c.want)) {
			t.Errorf("Key(%d, %v, %d) = %v", c.index, c.row, c.id, got)
		}
	}
	for _, index := range []int{-1, 2, math.MinInt, math.MaxInt} {
		if e, ok := x.From(index, nil); ok || e.Id != 0 || len(e.Key) != 0 {
			t.Errorf("From(%d) = %v, %v", index, e, ok)
		}
	}
	x.Key(0, []api.Value{{Kind: 77}}, 1)
}

// TestP19_4From asks for entries at, ahead of and behind each key.
func TestP19_4From(t *testing.T) {
	x, m := begin(t, pairs())
	for n := range 30 {
		apply(t, x, m, add(pair(int64(n*2%31), "x")...))
	}
	for i, index := range m.desc.Indexes {
		all := m.entries(index)
		asked := [][]byte{nil, {}, {0}, {255}}
		for _, e := range all {
			asked = append(asked, e.Key, append(slices.Clone(e.Key), 0), e.Key[:len(e.Key)-1], e.Key[:5])
		}
		for _, key := range asked {
			want, there := from(all, key)
			if got, ok := x.From(i, key); ok != there || got.Id != want.Id || !bytes.Equal(got.Key, want.Key) {
				t.Errorf("From(%d, %v) = %v, %v, not %v", i, key, got, ok, want)
			}
		}
	}
}
