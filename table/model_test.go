package table_test

import (
	"bytes"
	"fmt"
	"math"
	"slices"
	"testing"

	"hasp/api"
	"hasp/keys"
	"hasp/real"
	"hasp/rows"
	"hasp/schema"
	"hasp/table"
	"hasp/value"
)

// model is a table in plain lists: the rows under all numbers that were given (nil: none now).
type model struct {
	desc api.Table
	rows [][]api.Value
}

func (m *model) row(id int) []api.Value {
	if id < 1 || id > len(m.rows) {
		return nil
	}
	return m.rows[id-1]
}

// ids gives the numbers of the rows that there are.
func (m *model) ids() []int {
	var list []int
	for i, row := range m.rows {
		if row != nil {
			list = append(list, i+1)
		}
	}
	return list
}

// clone gives a model that goes its own way.
func (m *model) clone() *model { return &model{desc: m.desc, rows: slices.Clone(m.rows)} }

// make makes a change that is right, and gives what undoes it.
func (m *model) make(c api.Change) api.Change {
	was := m.row(c.Id)
	switch {
	case c.Id == 0:
		m.rows = append(m.rows, slices.Clone(c.Row))
		return api.Change{Id: len(m.rows), Del: true}
	case c.Del:
		m.rows[c.Id-1] = nil
	default:
		m.rows[c.Id-1] = slices.Clone(c.Row)
	}
	return api.Change{Id: c.Id, Row: was}
}

func (m *model) undo(list []api.Change) {
	for _, c := range list {
		m.rows[c.Id-1] = slices.Clone(c.Row)
	}
}

func part(x api.Index, row []api.Value) []api.Value {
	var list []api.Value
	for _, c := range x.Cols {
		list = append(list, row[c])
	}
	return list
}

// alike tells whether two rows are alike in an index.
func alike(x api.Index, a, b []api.Value) bool {
	null := func(v api.Value) bool { return v.Kind == api.Null }
	return !slices.ContainsFunc(part(x, a), null) && value.Rows(part(x, a), part(x, b)) == 0
}

// crowded tells whether two rows are alike in an index.
func (m *model) crowded(x api.Index) bool {
	ids := m.ids()
	for i, a := range ids {
		for _, b := range ids[:i] {
			if alike(x, m.row(a), m.row(b)) {
				return true
			}
		}
	}
	return false
}

// check tells what is wrong with changes, by the chapter's words.
func (m *model) check(list []api.Change) api.Errno {
	for i, c := range list {
		ahead := slices.ContainsFunc(list[:i], func(b api.Change) bool { return b.Id == c.Id })
		if c.Id < 0 || c.Id == 0 && c.Del || c.Id != 0 && (m.row(c.Id) == nil || ahead) {
			return api.ErrArg
		}
		if !c.Del {
			if code := rows.Fit(m.desc.Cols, c.Row); code != api.OK {
				return code
			}
		}
	}
	behind := m.clone()
	for _, c := range list {
		behind.make(c)
	}
	for _, x := range m.desc.Indexes {
		if x.Unique && behind.crowded(x) {
			return api.ErrUnique
		}
	}
	return api.OK
}

func number(id int) api.Value { return api.Value{Kind: api.Int, Num: int64(id)} }

// entries gives what an index holds.
func (m *model) entries(x api.Index) []api.Entry {
	var list []api.Entry
	for _, id := range m.ids() {
		list = append(list, api.Entry{Key: keys.Encode(append(part(x, m.row(id)), number(id))), Id: id})
	}
	slices.SortFunc(list, func(a, b api.Entry) int { return bytes.Compare(a.Key, b.Key) })
	return list
}

func (m *model) behind(id int) (int, bool) {
	for _, n := range m.ids() {
		if n > id {
			return n, true
		}
	}
	return 0, false
}

// from gives the first entry of a list that isn't ahead of a key.
func from(list []api.Entry, key []byte) (api.Entry, bool) {
	for _, e := range list {
		if bytes.Compare(e.Key, key) >= 0 {
			return e, true
		}
	}
	return api.Entry{}, false
}

// spots gives the entries that a change touches, by the chapter's words.
func (m *model) spots(c api.Change) []api.Spot {
	if e := m.check([]api.Change{c}); e != api.OK && e != api.ErrUnique {
		return nil
	}
	var list []api.Spot
	for i, x := range m.desc.Indexes {
		all, was := m.entries(x), m.row(c.Id)
		first := func(key []byte) {
			e, ok := from(all, key)
			list = append(list, api.Spot{Index: i, Key: e.Key, End: !ok})
		}
		if was != nil && !c.Del && value.Rows(part(x, was), part(x, c.Row)) == 0 {
			continue
		}
		if was != nil {
			own := keys.Encode(append(part(x, was), number(c.Id)))
			list = append(list, api.Spot{Index: i, Key: own})
			first(append(slices.Clone(own), 0))
		}
		if !c.Del {
			first(keys.Encode(part(x, c.Row)))
		}
	}
	return list
}

// hold asks a table and its model the same of all.
func hold(t *testing.T, x *table.Table, m *model) {
	t.Helper()
	if got := x.Desc(); !sameDesc(got, m.desc) {
		t.Fatalf("Desc = %v, not %v", got, m.desc)
	}
	if x.Len() != len(m.ids()) || x.Last() != len(m.rows) || !x.Sound() {
		t.Fatalf("Len = %d, Last = %d, Sound = %v, not %d, %d", x.Len(), x.Last(), x.Sound(), len(m.ids()), len(m.rows))
	}
	for id := -1; id <= len(m.rows)+1; id++ {
		want := m.row(id)
		if got, ok := x.Row(id); ok != (want != nil) || !slices.Equal(got, want) {
			t.Fatalf("Row(%d) = %v, %v, not %v", id, got, ok, want)
		}
		next, there := m.behind(id)
		if got, ok := x.Behind(id); got != next || ok != there {
			t.Fatalf("Behind(%d) = %d, %v, not %d, %v", id, got, ok, next, there)
		}
	}
	for i, index := range m.desc.Indexes {
		at := []byte(nil)
		for _, want := range m.entries(index) {
			got, ok := x.From(i, at)
			if !ok || got.Id != want.Id || !bytes.Equal(got.Key, want.Key) {
				t.Fatalf("From(%d, %v) = %v, %v, not %v", i, at, got, ok, want)
			}
			at = append(slices.Clone(got.Key), 0)
		}
		if got, ok := x.From(i, at); ok || got.Id != 0 || len(got.Key) != 0 {
			t.Fatalf("From(%d, %v) = %v, %v, though there is none", i, at, got, ok)
		}
	}
}

func sameDesc(a, b api.Table) bool {
	return a.Name == b.Name && slices.Equal(a.Cols, b.Cols) && slices.EqualFunc(a.Indexes, b.Indexes, func(x, y api.Index) bool {
		return x.Name == y.Name && x.Unique == y.Unique && slices.Equal(x.Cols, y.Cols)
	})
}

// begin gives a table and its model.
func begin(t *testing.T, desc api.Table) (*table.Table, *model) {
	t.Helper()
	x, code := table.New(desc)
	if x == nil || code != api.OK {
		t.Fatalf("New(%v) = %v, %d", desc, x, code)
	}
	if code := schema.Check(desc); code != api.OK {
		t.Fatalf("%v: %d", desc, code)
	}
	return x, &model{desc: x.Desc()}
}

// apply applies changes to a table and its model, and holds their answers against each other.
func apply(t *testing.T, x *table.Table, m *model, list ...api.Change) ([]api.Change, api.Errno) {
	t.Helper()
	want := m.check(list)
	if got := x.Check(list); got != want {
		t.Fatalf("Check(%v) = %d, not %d", list, got, want)
	}
	for _, c := range list {
		if got, want := fmt.Sprint(x.Spots(c)), fmt.Sprint(m.spots(c)); got != want {
			t.Fatalf("Spots(%v) = %v, not %v", c, got, want)
		}
	}
	back, code := x.Apply(list)
	var undo []api.Change
	if code == api.OK {
		for _, c := range list {
			undo = append(undo, m.make(c))
		}
	}
	if code != want || fmt.Sprint(back) != fmt.Sprint(undo) {
		t.Fatalf("Apply(%v) = %v, %d, not %v, %d", list, back, code, undo, want)
	}
	return back, code
}

func whole(n int64) api.Value { return api.Value{Kind: api.Int, Num: n} }

func point(f float64) api.Value { return api.Value{Kind: api.Real, Num: int64(math.Float64bits(f))} }

func text(s string) api.Value { return api.Value{Kind: api.Text, Text: s} }

func truth(n int64) api.Value { return api.Value{Kind: api.Bool, Num: n} }

// samples gives values of a type, few, so that they often meet.
func samples(kind int) []api.Value {
	switch kind {
	case api.Bool:
		return []api.Value{truth(0), truth(1)}
	case api.Int:
		return []api.Value{whole(0), whole(1), whole(2), whole(-1), whole(math.MaxInt64), whole(math.MinInt64)}
	case api.Real:
		return []api.Value{point(0), point(math.Copysign(0, -1)), point(1.5), {Kind: api.Real, Num: real.NaN}, point(math.Inf(-1))}
	case api.Text:
		return []api.Value{text(""), text("a"), text("a\x00"), text("a\x00b"), text("b\xff")}
	}
	return []api.Value{{}}
}
