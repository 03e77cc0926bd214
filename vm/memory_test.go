package vm_test

import (
	"fmt"
	"reflect"
	"slices"
	"testing"

	"hasp/api"
)

// span is where a list lies, its spare room too.
type span struct{ from, end uintptr }

// spans adds all lists that a value has in it.
func spans(v reflect.Value, list *[]span) {
	switch v.Kind() {
	case reflect.Slice:
		if v.Cap() > 0 {
			*list = append(*list, span{v.Pointer(), v.Pointer() + uintptr(v.Cap())*v.Type().Elem().Size()})
		}
		for i := range v.Len() {
			spans(v.Index(i), list)
		}
	case reflect.Struct:
		for i := range v.NumField() {
			spans(v.Field(i), list)
		}
	}
}

// apart tells whether no two lists of these share memory.
func apart(things ...any) bool {
	var list []span
	for _, thing := range things {
		spans(reflect.ValueOf(thing), &list)
	}
	slices.SortFunc(list, func(a, b span) int { return int(int64(a.from) - int64(b.from)) })
	for i := 1; i < len(list); i++ {
		if list[i].from < list[i-1].end {
			return false
		}
	}
	return true
}

// roomy gives a deep copy whose lists have spare room, in which something stands.
func roomy(v reflect.Value) reflect.Value {
	c := reflect.New(v.Type()).Elem()
	switch v.Kind() {
	case reflect.Slice:
		if v.Len() == 0 {
			return c
		}
		n := v.Len()
		c.Set(reflect.MakeSlice(v.Type(), n+2, n+2))
		for i := range n + 2 {
			c.Index(i).Set(roomy(v.Index(i % n)))
		}
		return c.Slice(0, n)
	case reflect.Struct:
		for i := range v.NumField() {
			c.Field(i).Set(roomy(v.Field(i)))
		}
		return c
	}
	c.Set(v)
	return c
}

// read reads a value out, the spare room of its lists too.
func read(v reflect.Value) string {
	switch v.Kind() {
	case reflect.Slice:
		s := fmt.Sprint(v.Len(), v.Cap(), "[")
		for i, all := 0, v.Slice(0, v.Cap()); i < all.Len(); i++ {
			s += read(all.Index(i)) + " "
		}
		return s + "]"
	case reflect.Struct:
		s := "{"
		for i := range v.NumField() {
			s += read(v.Field(i)) + " "
		}
		return s + "}"
	}
	return fmt.Sprint(v)
}

// spoil writes over all lists that a value has in it, their spare room too.
func spoil(v reflect.Value) {
	switch v.Kind() {
	case reflect.Slice:
		for i, all := 0, v.Slice(0, v.Cap()); i < all.Len(); i++ {
			spoil(all.Index(i))
			all.Index(i).SetZero()
		}
	case reflect.Struct:
		for i := range v.NumField() {
			spoil(v.Field(i))
		}
	}
}

// texts are statements of all kinds over the sample.
var texts = []string{
	"SELECT t.a, u.b + 1 FROM t JOIN u ON u.a = t.a AND t.a < 2 + 1 WHERE t.b >= 10 ORDER BY - t.a DESC, u.b",
	"SELECT a FROM u WHERE b = 0 OR b IS NULL",
	"UPDATE t SET a = a + 10, b = 7 WHERE a > 1 + 0 AND a <= 3",
	"DELETE FROM t WHERE a = 1 + 1",
	"INSERT INTO t VALUES (7 + 1, 9), (11, NULL)",
}

// TestP24_1Memory writes over a plan behind Start: the run goes on as it would have; and the plan isn't changed by it.
func TestP24_1Memory(t *testing.T) {
	for _, s := range texts {
		w, v := sample(t), sample(t)
		want := v.m.Start(v.x.Begin(), v.plan(s))
		p := roomy(reflect.ValueOf(w.plan(s))).Interface().(api.Plan)
		before := read(reflect.ValueOf(p))
		r := w.m.Start(w.x.Begin(), p)
		if after := read(reflect.ValueOf(p)); after != before {
			t.Errorf("%s: %s has become %s", s, before, after)
		}
		spoil(reflect.ValueOf(p))
		w.told(s, last(r), "D")
		w.told(s, last(want), "D")
		w.told(s, fmt.Sprint(r.Result(), w.table("t"), w.l.Locks()), fmt.Sprint(want.Result(), v.table("t"), v.l.Locks()))
	}
}

// TestP24_1PlanShared runs one plan twice, step by step in turn, in two worlds.
func TestP24_1PlanShared(t *testing.T) {
	for _, s := range texts {
		w, v := sample(t), sample(t)
		p := roomy(reflect.ValueOf(w.plan(s))).Interface().(api.Plan)
		before := read(reflect.ValueOf(p))
		first, second := w.m.Start(w.x.Begin(), p), v.m.Start(v.x.Begin(), p)
		for range 200 {
			if a, b := first.Step(), second.Step(); a != b {
				t.Errorf("%s: %d, %d", s, a, b)
			}
		}
		if after := read(reflect.ValueOf(p)); after != before {
			t.Errorf("%s: %s has become %s", s, before, after)
		}
		w.told(s, fmt.Sprint(first.Result(), w.table("t")), fmt.Sprint(second.Result(), v.table("t")))
	}
}

// TestP24_2Memory holds that what Result answers is new memory, at every step.
func TestP24_2Memory(t *testing.T) {
	for _, s := range append(texts, "SELECT * FROM t", "SELECT a, b FROM t ORDER BY b DESC, a") {
		w, v := sample(t), sample(t)
		r, want := w.m.Start(w.x.Begin(), w.plan(s)), v.m.Start(v.x.Begin(), v.plan(s))
		for range 60 {
			one, two := r.Result(), r.Result()
			if !apart(one, two) {
				t.Errorf("%s: lists share memory", s)
			}
			for _, row := range one.Rows {
				_ = append(row, whole(99), whole(98), whole(97))
			}
			spoil(reflect.ValueOf(one))
			w.told(s, two, fmt.Sprint(want.Result()))
			r.Step()
			want.Step()
		}
	}
	w := sample(t)
	some := emit(num(1), num(2), num(3))
	some.N = 1
	r := w.start(some, some, sorts(false, true), some, sorts(true), halt())
	for range 7 {
		got := r.Result()
		for i := range got.Rows {
			got.Rows[i] = append(got.Rows[i], whole(99), whole(98))
		}
		r.Step()
	}
	w.told("the answer", rowsText(r.Result()), "1 1 1")
}

// TestP24_1RowsKept writes over nothing of the tables by what is answered.
func TestP24_1RowsKept(t *testing.T) {
	w := sample(t)
	before := w.table("t")
	r := w.m.Start(w.x.Begin(), w.plan("SELECT * FROM t"))
	last(r)
	spoil(reflect.ValueOf(r.Result()))
	w.told("the table", w.table("t"), before)
	w.told("the answer", rowsText(r.Result()), "1,10 2,20 3,30")
}
