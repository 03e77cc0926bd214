package norm_test

import (
	"fmt"
	"math/rand/v2"
	"reflect"
	"slices"
	"testing"

	"hasp/api"
	"hasp/norm"
)

// span is where a list lies, its spare room too.
type span struct{ from, end uintptr }

// spans adds all lists that a value has in it.
func spans(v reflect.Value, list *[]span) {
	switch v.Kind() {
	case reflect.Slice:
		if v.Cap() > 0 {
			*list = append(*list, span{v.Pointer(), v.Pointer() + uintptr(v.Cap())*v.Type().Elem().Size()})
		}
		for i := range v.Len() {
			spans(v.Index(i), list)
		}
	case reflect.Struct:
		for i := range v.NumField() {
			spans(v.Field(i), list)
		}
	}
}

// apart tells whether no two lists of these share memory.
func apart(things ...any) bool {
	var list []span
	for _, thing := range things {
		spans(reflect.ValueOf(thing), &list)
	}
	slices.SortFunc(list, func(a, b span) int { return int(int64(a.from) - int64(b.from)) })
	for i := 1; i < len(list); i++ {
		if list[i].from < list[i-1].end {
			return false
		}
	}
	return true
}

// roomy gives a copy whose lists have spare room, in which something stands.
func roomy(c api.Code) api.Code {
	if len(c.Args) == 0 {
		return c
	}
	args := make([]api.Code, 0, len(c.Args)+2)
	for _, a := range c.Args {
		args = append(args, roomy(a))
	}
	c.Args = append(args, con(77), con(78))[:len(args)]
	return c
}

// whole reads a code out, the spare room of its lists too.
func whole(c api.Code) string {
	s := fmt.Sprint(c.Op, c.Type, c.Val, c.Tab, c.Col, len(c.Args), "(")
	for _, a := range c.Args[:cap(c.Args)] {
		s += whole(a)
	}
	return s + ")"
}

// TestP18_4Memory holds that answers are new memory, and that what is handed in stays as it is.
func TestP18_4Memory(t *testing.T) {
	r := rand.New(rand.NewPCG(18, 5))
	for range 5000 {
		c := roomy(anyCode(r, 4))
		if r.IntN(2) == 0 {
			c = roomy(do(api.OpLe, col(0, 1), anyCode(r, 3)))
		}
		before := whole(c)
		list, again := norm.Conjuncts(c), norm.Conjuncts(c)
		tabs, more := norm.Sources(c), norm.Sources(c)
		bound, _ := norm.Bound(c, 0)
		other, _ := norm.Bound(c, 0)
		if !apart(c, list, again, tabs, more, bound, other) {
			t.Errorf("%v: lists share memory", c)
		}
		if !slices.Equal(texts(list), texts(again)) || !slices.Equal(tabs, more) || text(bound.E) != text(other.E) {
			t.Errorf("%v: one answer, then another one", c)
		}
		if twice := do(api.OpAnd, c, do(api.OpAnd, c, c)); !apart(norm.Conjuncts(twice)) {
			t.Errorf("%v thrice: conjuncts share memory", c)
		}
		if whole(c) != before {
			t.Errorf("%s is changed to %s", before, whole(c))
		}
	}
}
