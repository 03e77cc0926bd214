package table_test

import (
	"fmt"
	"math/rand/v2"
	"reflect"
	"slices"
	"testing"

	"hasp/api"
	"hasp/table"
)

// span is where a list lies, its spare room too.
type span struct{ from, end uintptr }

// spans adds all lists that a value has in it.
func spans(v reflect.Value, list *[]span) {
	switch v.Kind() {
	case reflect.Slice:
		if v.Cap() > 0 {
			*list = append(*list, span{v.Pointer(), v.Pointer() + uintptr(v.Cap())*v.Type().Elem().Size()})
		}
		for i := range v.Len() {
			spans(v.Index(i), list)
		}
	case reflect.Struct:
		for i := range v.NumField() {
			spans(v.Field(i), list)
		}
	}
}

// apart tells whether no two lists of these share memory.
func apart(things ...any) bool {
	var list []span
	for _, thing := range things {
		spans(reflect.ValueOf(thing), &list)
	}
	slices.SortFunc(list, func(a, b span) int { return int(int64(a.from) - int64(b.from)) })
	for i := 1; i < len(list); i++ {
		if list[i].from < list[i-1].end {
			return false
		}
	}
	return true
}

// roomy gives a deep copy whose lists have spare room, in which something stands.
func roomy[T any](x T) T { return roomyValue(reflect.ValueOf(x)).Interface().(T) }

func roomyValue(v reflect.Value) reflect.Value {
	c := reflect.New(v.Type()).Elem()
	switch v.Kind() {
	case reflect.Slice:
		if v.Len() == 0 {
			return c
		}
		n := v.Len()
		c.Set(reflect.MakeSlice(v.Type(), n+2, n+2))
		for i := range n + 2 {
			c.Index(i).Set(roomyValue(v.Index(i % n)))
		}
		return c.Slice(0, n)
	case reflect.Struct:
		for i := range v.NumField() {
			c.Field(i).Set(roomyValue(v.Field(i)))
		}
		return c
	}
	c.Set(v)
	return c
}

// readOut reads a value out, the spare room of its lists too.
func readOut(v reflect.Value) string {
	switch v.Kind() {
	case reflect.Slice:
		s := fmt.Sprint(v.Len(), v.Cap(), "[")
		for i, all := 0, v.Slice(0, v.Cap()); i < all.Len(); i++ {
			s += readOut(all.Index(i)) + " "
		}
		return s + "]"
	case reflect.Struct:
		s := "{"
		for i := range v.NumField() {
			s += readOut(v.Field(i)) + " "
		}
		return s + "}"
	}
	return fmt.Sprint(v)
}

// spoil writes over all lists that a value has in it.
func spoil(v reflect.Value) {
	switch v.Kind() {
	case reflect.Slice:
		for i, all := 0, v.Slice(0, v.Cap()); i < all.Len(); i++ {
			spoil(all.Index(i))
			all.Index(i).SetZero()
		}
	case reflect.Struct:
		for i := range v.NumField() {
			spoil(v.Field(i))
		}
	}
}

// given hands a roomy copy in, holds that it isn't changed, and writes it over then.
func given[T any](t *testing.T, x T, hand func(T)) {
	t.Helper()
	c := roomy(x)
	before := readOut(reflect.ValueOf(c))
	hand(c)
	if after := readOut(reflect.ValueOf(c)); after != before {
		t.Errorf("%s is changed to %s", before, after)
	}
	spoil(reflect.ValueOf(c))
}

// answers gives what a table tells of itself.
func answers(x *table.Table, c api.Change) []any {
	all := []any{x.Desc(), x.Spots(c)}
	for id := range 6 {
		row, _ := x.Row(id)
		e, _ := x.From(id, nil)
		all = append(all, row, e, x.Key(id, c.Row, 3))
	}
	return all
}

// TestP19_7Memory holds that answers are new memory, and that what is handed in is neither changed nor kept.
func TestP19_7Memory(t *testing.T) {
	r := rand.New(rand.NewPCG(19, 9))
	for range 500 {
		var x *table.Table
		m := &model{desc: anyTable(r)}
		m.put(anyIndex(r, 2), 0)
		given(t, m.desc, func(d api.Table) { x, _ = table.New(d) })
		for range 8 {
			list := anyList(r, m)
			given(t, list, func(list []api.Change) {
				x.Check(list)
				for _, c := range list {
					if a, b := answers(x, c), answers(x, c); !apart(append(append(a, b...), list)...) {
						t.Errorf("%v: lists share memory", c)
					}
				}
				back, code := x.Apply(list)
				if !apart(append(answers(x, api.Change{}), back, list)...) {
					t.Errorf("Apply(%v): lists share memory", list)
				}
				if code == api.OK && r.IntN(3) == 0 {
					given(t, back, x.Undo)
					for len(m.rows) < x.Last() {
						m.rows = append(m.rows, nil)
					}
				} else if code == api.OK {
					for _, c := range list {
						m.make(roomy(c))
					}
				}
				spoil(reflect.ValueOf(back))
			})
			hold(t, x, m)
			index, at := anyIndex(r, len(m.desc.Cols)), r.IntN(3)
			m.put(index, at)
			given(t, index, func(index api.Index) { x.PutIndex(index, at) })
			desc := x.Desc()
			spoil(reflect.ValueOf(desc))
			given(t, []byte{2, 3}, func(key []byte) { x.From(0, key) })
			hold(t, x, m)
		}
	}
}
