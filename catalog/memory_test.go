package catalog_test

import (
	"fmt"
	"reflect"
	"slices"
	"testing"

	"hasp/api"
	"hasp/catalog"
)

// span is where a list lies, its spare room too.
type span struct{ from, end uintptr }

// spans adds all lists that a value has in it.
func spans(v reflect.Value, list *[]span) {
	switch v.Kind() {
	case reflect.Slice:
		if v.Cap() > 0 {
			*list = append(*list, span{v.Pointer(), v.Pointer() + uintptr(v.Cap())*v.Type().Elem().Size()})
		}
		for i := range v.Len() {
			spans(v.Index(i), list)
		}
	case reflect.Struct:
		for i := range v.NumField() {
			spans(v.Field(i), list)
		}
	}
}

// apart tells whether no two lists of these share memory.
func apart(things ...any) bool {
	var list []span
	for _, thing := range things {
		spans(reflect.ValueOf(thing), &list)
	}
	slices.SortFunc(list, func(a, b span) int { return int(int64(a.from) - int64(b.from)) })
	for i := 1; i < len(list); i++ {
		if list[i].from < list[i-1].end {
			return false
		}
	}
	return true
}

// spoil writes over all lists that a value has in it.
func spoil(v reflect.Value) {
	switch v.Kind() {
	case reflect.Slice:
		for i := range v.Len() {
			spoil(v.Index(i))
			v.Index(i).SetZero()
		}
	case reflect.Struct:
		for i := range v.NumField() {
			spoil(v.Field(i))
		}
	}
}

// roomy gives a list with spare room, in which something stands.
func roomy[T any](list ...T) []T { return append(slices.Clone(list), list...)[:len(list)] }

// handed calls with something, holds that it isn't changed, its lists' spare room neither, and writes it over then.
func handed[T any](t *testing.T, x T, show func(T) string, call func(T)) {
	t.Helper()
	before := show(x)
	if call(x); show(x) != before {
		t.Errorf("%s is changed to %s", before, show(x))
	}
	spoil(reflect.ValueOf(x))
}

func showTable(x api.Table) string {
	s := fmt.Sprint(x.Name, x.Cols[:cap(x.Cols)], len(x.Cols), x.Indexes[:cap(x.Indexes)], len(x.Indexes))
	for _, i := range x.Indexes {
		s += showIndex(i)
	}
	return s
}

func showIndex(x api.Index) string { return fmt.Sprint(x, x.Cols[:cap(x.Cols)]) }

func showChanges(list []api.Change) string {
	s := fmt.Sprint(list[:cap(list)])
	for _, c := range list {
		s += fmt.Sprint(c.Row[:cap(c.Row)])
	}
	return s
}

// TestP20_4Memory holds that what is handed in isn't changed or kept, and that answers are new memory.
func TestP20_4Memory(t *testing.T) {
	s := catalog.New()
	var undo []*catalog.Undo
	do := func(u *catalog.Undo, code api.Errno) { undo = append(undo, done(t, s)(u, code)) }
	first, second := unique("i", roomy(0)...), index("j", roomy(1, 0)...)
	handed(t, api.Table{Name: "t", Cols: roomy(pairs("t").Cols...), Indexes: roomy(first, second)}, showTable, func(x api.Table) { do(s.Make(x)) })
	handed(t, roomy(add(1, "x"), add(2, "y")), showChanges, func(list []api.Change) { do(s.Apply("t", list)) })
	handed(t, index("k", roomy(0, 1)...), showIndex, func(x api.Index) { do(s.AddIndex("t", x)) })
	told(t, s, []api.Table{pairs("t", unique("i", 0), index("j", 1, 0), index("k", 0, 1))})
	want := picture(s)
	do(s.DropIndex("j"))
	handed(t, roomy(api.Change{Id: 1, Row: roomy(whole(7), text("z"))}, del(2)), showChanges, func(list []api.Change) { do(s.Apply("t", list)) })
	do(s.Drop("t"))
	for _, u := range slices.Backward(undo[3:]) {
		u.Back()
	}
	if got := picture(s); got != want || !s.Sound() {
		t.Errorf("%s, not %s", got, want)
	}
	answers := []any{s.Tables(), s.Tables(), s.Dump(), s.Dump()}
	if !apart(answers...) {
		t.Error("lists share memory")
	}
	for _, answer := range answers {
		spoil(reflect.ValueOf(answer))
	}
	if got := picture(s); got != want || !s.Sound() {
		t.Errorf("%s, not %s", got, want)
	}
}
