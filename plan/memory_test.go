package plan_test

import (
	"fmt"
	"reflect"
	"slices"
	"testing"

	"hasp/api"
	"hasp/bind"
	"hasp/plan"
)

// span is where a list lies, its spare room too.
type span struct{ from, end uintptr }

// spans adds all lists that a value has in it.
func spans(v reflect.Value, list *[]span) {
	switch v.Kind() {
	case reflect.Slice:
		if v.Cap() > 0 {
			*list = append(*list, span{v.Pointer(), v.Pointer() + uintptr(v.Cap())*v.Type().Elem().Size()})
		}
		for i := range v.Len() {
			spans(v.Index(i), list)
		}
	case reflect.Struct:
		for i := range v.NumField() {
			spans(v.Field(i), list)
		}
	}
}

// apart tells whether no two lists of these share memory.
func apart(things ...any) bool {
	var list []span
	for _, thing := range things {
		spans(reflect.ValueOf(thing), &list)
	}
	slices.SortFunc(list, func(a, b span) int { return int(int64(a.from) - int64(b.from)) })
	for i := 1; i < len(list); i++ {
		if list[i].from < list[i-1].end {
			return false
		}
	}
	return true
}

// roomy gives a deep copy whose lists have spare room, in which something stands.
func roomy(v reflect.Value) reflect.Value {
	c := reflect.New(v.Type()).Elem()
	switch v.Kind() {
	case reflect.Slice:
		if v.Len() == 0 {
			return c
		}
		n := v.Len()
		c.Set(reflect.MakeSlice(v.Type(), n+2, n+2))
		for i := range n + 2 {
			c.Index(i).Set(roomy(v.Index(i % n)))
		}
		return c.Slice(0, n)
	case reflect.Struct:
		for i := range v.NumField() {
			c.Field(i).Set(roomy(v.Field(i)))
		}
		return c
	}
	c.Set(v)
	return c
}

// read reads a value out, the spare room of its lists too.
func read(v reflect.Value) string {
	switch v.Kind() {
	case reflect.Slice:
		s := fmt.Sprint(v.Len(), v.Cap(), "[")
		for i, all := 0, v.Slice(0, v.Cap()); i < all.Len(); i++ {
			s += read(all.Index(i)) + " "
		}
		return s + "]"
	case reflect.Struct:
		s := "{"
		for i := range v.NumField() {
			s += read(v.Field(i)) + " "
		}
		return s + "}"
	}
	return fmt.Sprint(v)
}

// separate makes a term's plan twice, and holds that both are alike and new memory, and that the term stays as it is.
func separate(t *testing.T, what string, x api.Term) {
	t.Helper()
	before := read(reflect.ValueOf(x))
	p, code := plan.Make(x)
	again, more := plan.Make(x)
	if code != api.OK || more != api.OK || fmt.Sprint(p) != fmt.Sprint(again) {
		t.Errorf("P2: %s: %d, %+v, and then %d, %+v", what, code, p, more, again)
	}
	if !apart(x, p, again) {
		t.Errorf("%s: lists share memory", what)
	}
	if after := read(reflect.ValueOf(x)); after != before {
		t.Errorf("%s: %s has become %s", what, before, after)
	}
}

// TestP23_4Memory holds that answers are new memory, and that what is handed in stays as it is.
func TestP23_4Memory(t *testing.T) {
	g := newMaker(4)
	for range 200 {
		_, list := g.tables(0)
		for range 4 {
			what := g.statement(list)
			if x, ok := term(what, list); ok {
				separate(t, what, roomy(reflect.ValueOf(x)).Interface().(api.Term))
			}
		}
	}
	w := sample(t)
	x, code := bind.Bind(api.Stmt{Kind: api.StDelete, Table: "v", Where: all(parts(2500, "v"))}, w.list)
	if code != api.OK {
		t.Fatal(code)
	}
	separate(t, "many conditions", x)
}

// TestP23_4OverWritten writes over a term behind the call: the plan stays as it is.
func TestP23_4OverWritten(t *testing.T) {
	w := sample(t)
	for _, s := range []string{"SELECT a + 1 FROM t WHERE a > 1 + 2 AND a < 9 ORDER BY - a DESC", "UPDATE t SET a = a + 1 WHERE c = 1 + 1", "INSERT INTO v VALUES (1 + 1)"} {
		x := w.term(s)
		p, _ := plan.Make(x)
		before := fmt.Sprint(p)
		for _, list := range append([][]api.Code{x.Conds, x.Items, x.Order}, x.Rows...) {
			clear(list)
		}
		clear(x.Desc)
		clear(x.Tables[0].Indexes)
		clear(x.Tables)
		if after := fmt.Sprint(p); after != before {
			t.Errorf("%s: %s has become %s", s, before, after)
		}
	}
}
