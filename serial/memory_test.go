package serial_test

import (
	"reflect"
	"slices"
	"testing"

	"hasp/api"
)

// each goes through all slices that a value has in it, also those in its spare room.
func each(v reflect.Value, visit func(list reflect.Value)) {
	switch v.Kind() {
	case reflect.Slice:
		for i, all := 0, v.Slice(0, v.Cap()); i < all.Len(); i++ {
			each(all.Index(i), visit)
		}
		visit(v)
	case reflect.Struct:
		for i := range v.NumField() {
			each(v.Field(i), visit)
		}
	}
}

// apart tells whether no two slices in these share memory.
func apart(things ...any) bool {
	type room struct{ from, end uintptr }
	var all []room
	for _, x := range things {
		each(reflect.ValueOf(x), func(list reflect.Value) {
			if list.Cap() > 0 {
				all = append(all, room{list.Pointer(), list.Pointer() + uintptr(list.Cap())*list.Type().Elem().Size()})
			}
		})
	}
	slices.SortFunc(all, func(a, b room) int { return int(int64(a.from) - int64(b.from)) })
	for i := 1; i < len(all); i++ {
		if all[i].from < all[i-1].end {
			return false
		}
	}
	return true
}

// spoil writes over all slices that a value has in it, their spare room too.
func spoil(x any) {
	each(reflect.ValueOf(x), func(list reflect.Value) { list.Slice(0, list.Cap()).Clear() })
}

// TestP27_2Memory writes over all that a machine answers: it goes on as one of which nothing was written over, and no two answers share memory.
func TestP27_2Memory(t *testing.T) {
	t.Parallel()
	g := newMaker(5)
	rows := 0
	for range 30 {
		d, untouched := open(t, 8), open(t, 8)
		var last api.Reply
		for n := range 100 {
			text := g.statement()
			if n < 6 {
				text = g.write("make", 1)
			}
			r, want := d.Do(text), untouched.Do(text)
			one, two := d.Dump(), d.Dump()
			if !apart(r, last, one, two) {
				t.Fatalf("%s: lists share memory", text)
			}
			if !reflect.DeepEqual(r, want) || !reflect.DeepEqual(one, untouched.Dump()) {
				t.Fatalf("%s: %v and %v, not %v and %v", text, r, one, want, untouched.Dump())
			}
			rows += len(r.Rows) + len(one)
			spoil(last)
			spoil(one)
			spoil(two)
			if !reflect.DeepEqual(r, want) {
				t.Fatalf("%s: another answer that is written over is seen in it: %v", text, r)
			}
			last = r
		}
	}
	if rows < 1000 {
		t.Errorf("%d rows", rows)
	}
}
