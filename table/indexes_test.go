package table_test

import (
	"fmt"
	"math"
	"slices"
	"testing"

	"hasp/api"
	"hasp/keys"
	"hasp/schema"
)

// key gives a key's text, to hold spots against.
func key(list ...api.Value) []byte { return keys.Encode(list) }

// TestP19_5Spots tells each spot by hand.
func TestP19_5Spots(t *testing.T) {
	x, m := begin(t, pairs())
	apply(t, x, m, add(pair(1, "b")...), add(pair(5, "a")...), add(api.Value{}, text("b")))
	in := func(index int, list ...api.Value) api.Spot { return api.Spot{Index: index, Key: key(list...)} }
	end := func(index int) api.Spot { return api.Spot{Index: index, End: true} }
	null := api.Value{}
	for _, c := range []struct {
		change api.Change
		want   []api.Spot
	}{
		{add(pair(3, "a")...), []api.Spot{in(0, whole(5), whole(2)), in(1, text("a"), whole(5), whole(2))}},
		{add(pair(9, "z")...), []api.Spot{end(0), end(1)}},
		{add(null, text("b")), []api.Spot{in(0, null, whole(3)), in(1, text("b"), null, whole(3))}},
		{add(pair(1, "b")...), []api.Spot{in(0, whole(1), whole(1)), in(1, text("b"), whole(1), whole(1))}},
		{add(pair(5, "b")...), []api.Spot{in(0, whole(5), whole(2)), end(1)}},
		{del(1), []api.Spot{in(0, whole(1), whole(1)), in(0, whole(5), whole(2)), in(1, text("b"), whole(1), whole(1)), end(1)}},
		{del(2), []api.Spot{in(0, whole(5), whole(2)), end(0), in(1, text("a"), whole(5), whole(2)), in(1, text("b"), null, whole(3))}},
		{api.Change{Id: 2, Row: pair(1, "?"), Del: true}, []api.Spot{in(0, whole(5), whole(2)), end(0), in(1, text("a"), whole(5), whole(2)), in(1, text("b"), null, whole(3))}},
		{set(1, pair(1, "b")...), nil},
		{set(1, pair(1, "c")...), []api.Spot{in(1, text("b"), whole(1), whole(1)), end(1), end(1)}},
		{set(1, pair(0, "b")...), []api.Spot{in(0, whole(1), whole(1)), in(0, whole(5), whole(2)), in(0, whole(1), whole(1)), in(1, text("b"), whole(1), whole(1)), end(1), in(1, text("b"), whole(1), whole(1))}},
		{set(3, pair(5, "b")...), []api.Spot{in(0, null, whole(3)), in(0, whole(1), whole(1)), in(0, whole(5), whole(2)), in(1, text("b"), null, whole(3)), in(1, text("b"), whole(1), whole(1)), end(1)}},
		{set(3, null, text("b")), nil},
		{del(0), nil}, {del(4), nil}, {del(-1), nil}, {set(4, pair(1, "")...), nil}, {set(math.MinInt, pair(1, "")...), nil},
		{add(), nil}, {add(whole(1)), nil}, {add(whole(1), null), nil}, {set(1, text(""), text("")), nil},
	} {
		if got := x.Spots(c.change); fmt.Sprint(got) != fmt.Sprint(c.want) {
			t.Errorf("Spots(%v) = %v, not %v", c.change, got, c.want)
		}
	}
	hold(t, x, m)
}

// TestP19_5SameKey has a row that becomes another one, though its key stays.
func TestP19_5SameKey(t *testing.T) {
	x, m := begin(t, api.Table{Name: "t", Cols: []api.Column{{Name: "a", Type: api.Real}}, Indexes: []api.Index{{Name: "i", Cols: []int{0}, Unique: true}}})
	apply(t, x, m, add(point(0)))
	c := set(1, point(math.Copysign(0, -1)))
	if got := x.Spots(c); len(got) != 0 {
		t.Errorf("Spots = %v", got)
	}
	apply(t, x, m, c)
	hold(t, x, m)
}

// put puts an index into a table and its model, and holds the answer against the chapter's words.
func (m *model) put(x api.Index, at int) api.Errno {
	if at < 0 || at > len(m.desc.Indexes) {
		return api.ErrArg
	}
	desc := m.desc
	desc.Indexes = slices.Insert(slices.Clone(desc.Indexes), at, x)
	if code := schema.Check(desc); code != api.OK {
		return code
	}
	if x.Unique && m.crowded(x) {
		return api.ErrUnique
	}
	m.desc = desc
	return api.OK
}

func TestP19_6PutIndex(t *testing.T) {
	for _, c := range []struct {
		x    api.Index
		at   int
		want api.Errno
	}{
		{api.Index{Name: "k", Cols: []int{1}}, 0, api.OK},
		{api.Index{Name: "k", Cols: []int{1}}, 1, api.OK},
		{api.Index{Name: "k", Cols: []int{0, 1}, Unique: true}, 2, api.OK},
		{api.Index{Name: "k", Cols: []int{1}}, 3, api.ErrArg},
		{api.Index{Name: "k", Cols: []int{1}}, -1, api.ErrArg},
		{api.Index{Name: "k", Cols: []int{1}}, math.MaxInt, api.ErrArg},
		{api.Index{Name: "", Cols: nil}, math.MinInt, api.ErrArg},
		{api.Index{Name: "", Cols: []int{1}}, 0, api.ErrName},
		{api.Index{Name: "where", Cols: nil}, 0, api.ErrName},
		{api.Index{Name: "i", Cols: []int{9}}, 2, api.ErrExists},
		{api.Index{Name: "j", Cols: []int{1}, Unique: true}, 0, api.ErrExists},
		{api.Index{Name: "k"}, 0, api.ErrMany},
		{api.Index{Name: "j"}, 0, api.ErrMany},
		{api.Index{Name: "k", Cols: []int{0, 1, 0, 1, 0}}, 0, api.ErrMany},
		{api.Index{Name: "k", Cols: []int{2}, Unique: true}, 0, api.ErrColumn},
		{api.Index{Name: "k", Cols: []int{1, -1}, Unique: true}, 0, api.ErrColumn},
		{api.Index{Name: "k", Cols: []int{1, 1}, Unique: true}, 0, api.ErrExists},
		{api.Index{Name: "k", Cols: []int{1}, Unique: true}, 0, api.ErrUnique},
		{api.Index{Name: "k", Cols: []int{1}, Unique: true}, 2, api.ErrUnique},
	} {
		x, m := begin(t, pairs())
		apply(t, x, m, add(pair(1, "x")...), add(pair(2, "x")...), add(api.Value{}, text("y")))
		want := m.put(c.x, c.at)
		if got := x.PutIndex(c.x, c.at); got != want || got != c.want {
			t.Errorf("PutIndex(%v, %d) = %d, not %d, %d", c.x, c.at, got, want, c.want)
		}
		hold(t, x, m)
		apply(t, x, m, add(pair(8, "x")...), set(1, pair(3, "z")...), del(2))
		hold(t, x, m)
	}
}

// TestP19_6Many has as many indexes as a table may have.
func TestP19_6Many(t *testing.T) {
	x, m := begin(t, pairs())
	apply(t, x, m, add(pair(1, "x")...), add(pair(2, "x")...))
	for n := range 7 {
		index := api.Index{Name: string(rune('p' + n)), Cols: []int{n % 2}}
		want := m.put(index, len(m.desc.Indexes))
		if got := x.AddIndex(index); got != want || (n == 6) != (want == api.ErrMany) {
			t.Errorf("AddIndex(%v) = %d, not %d", index, got, want)
		}
		hold(t, x, m)
	}
	if got := x.AddIndex(api.Index{Name: "i", Cols: []int{0}}); got != api.ErrMany {
		t.Errorf("AddIndex of the ninth = %d", got)
	}
	for _, name := range []string{"s", "zz", "i", "", "u", "j", "I", "p", "p", "q", "r", "t"} {
		at := slices.IndexFunc(m.desc.Indexes, func(x api.Index) bool { return x.Name == name })
		if got := x.DropIndex(name); got != (at >= 0) {
			t.Errorf("DropIndex(%q) = %v", name, got)
		}
		if at >= 0 {
			m.desc.Indexes = slices.Delete(m.desc.Indexes, at, at+1)
		}
		hold(t, x, m)
		apply(t, x, m, add(api.Value{}, text(name)))
	}
	if len(x.Desc().Indexes) != 0 {
		t.Errorf("%v", x.Desc())
	}
	apply(t, x, m, add(pair(1, "x")...))
}

// TestP19_6Null has rows that have values in common, but one of them is Null: they aren't alike.
func TestP19_6Null(t *testing.T) {
	x, m := begin(t, pairs())
	apply(t, x, m, add(api.Value{}, text("x")), add(api.Value{}, text("x")))
	for _, cols := range [][]int{{0}, {0, 1}, {1, 0}} {
		index := api.Index{Name: "k", Cols: cols, Unique: true}
		if got := x.AddIndex(index); got != api.OK {
			t.Errorf("AddIndex(%v) = %d", index, got)
		}
		x.DropIndex("k")
	}
	if got := x.AddIndex(api.Index{Name: "k", Cols: []int{1}, Unique: true}); got != api.ErrUnique {
		t.Errorf("AddIndex = %d", got)
	}
}
