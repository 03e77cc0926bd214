package engine_test

import (
	"reflect"
	"slices"
	"testing"
)

// span is where a list lies, its spare room too.
type span struct{ from, end uintptr }

// spans adds all lists that a value has in it.
func spans(v reflect.Value, list *[]span) {
	switch v.Kind() {
	case reflect.Slice:
		if v.Cap() > 0 {
			*list = append(*list, span{v.Pointer(), v.Pointer() + uintptr(v.Cap())*v.Type().Elem().Size()})
		}
		for i := range v.Len() {
			spans(v.Index(i), list)
		}
	case reflect.Struct:
		for i := range v.NumField() {
			spans(v.Field(i), list)
		}
	}
}

// apart tells whether no two lists of these share memory.
func apart(things ...any) bool {
	var list []span
	for _, thing := range things {
		spans(reflect.ValueOf(thing), &list)
	}
	slices.SortFunc(list, func(a, b span) int { return int(int64(a.from) - int64(b.from)) })
	for i := 1; i < len(list); i++ {
		if list[i].from < list[i-1].end {
			return false
		}
	}
	return true
}

// spoil writes over all lists that a value has in it, their spare room too.
func spoil(v reflect.Value) {
	switch v.Kind() {
	case reflect.Slice:
		for i, all := 0, v.Slice(0, v.Cap()); i < all.Len(); i++ {
			spoil(all.Index(i))
			all.Index(i).SetZero()
		}
	case reflect.Struct:
		for i := range v.NumField() {
			spoil(v.Field(i))
		}
	}
}

// TestP25_8Memory writes over all that an engine answers, its spare room too, at many moments of a play: it goes on as one of which nothing was written over.
func TestP25_8Memory(t *testing.T) {
	lay := func() *desk {
		return open(t, 3, 6, "CREATE TABLE t (a INT, b TEXT)", "CREATE INDEX j ON t (b, a)", "INSERT INTO t VALUES (1, 'x'), (2, 'y')")
	}
	d, untouched := lay(), lay()
	g := newMaker(9)
	for _, x := range []struct {
		session int
		text    string
	}{
		{0, "BEGIN"}, {1, "SELECT a, b FROM t ORDER BY a"}, {0, "SELECT b, a + 1 AS c FROM t"}, {0, "UPDATE t SET a = 7 WHERE b = 'x'"}, {1, "SELECT * FROM t"}, {2, "DROP TABLE t"}, {0, "COMMIT"}, {0, "CREATE TABLE u (c INT)"}, {0, "INSERT INTO u VALUES (1), (2)"}, {0, "SELECT * FROM systables JOIN syscolumns ON tbl = systables.name"}, {0, "CREATE UNIQUE INDEX k ON u (c)"}, {0, "SELECT * FROM u WHERE c = 2"},
	} {
		d.Submit(x.session, x.text)
		untouched.Submit(x.session, x.text)
		for range 150 {
			n := g.IntN(3)
			if got, want := d.Step(n), untouched.Step(n); got != want {
				t.Fatalf("%s: %d, not %d", x.text, got, want)
			}
			for _, answers := range [][]any{answered(d), {d.Replies(2), d.Replies(0), d.Replies(1)}} {
				if !apart(answers...) {
					t.Fatalf("%s: lists share memory", x.text)
				}
				for _, a := range answers {
					spoil(reflect.ValueOf(a))
				}
			}
			if got, want := d.all(), untouched.all(); got != want {
				t.Fatalf("%s: %s, not %s", x.text, got, want)
			}
		}
	}
	if len(d.Replies(0)) != 15 {
		t.Errorf("%d replies", len(d.Replies(0)))
	}
}

// answered gives all that an engine tells, each twice.
func answered(d *desk) []any {
	return []any{d.Replies(0), d.Sessions(), d.Dump(), d.Locks(), d.Edges(), d.Replies(0), d.Sessions(), d.Dump(), d.Locks(), d.Edges()}
}

// TestP25_8Engines has two engines: what is done to one isn't seen in the other.
func TestP25_8Engines(t *testing.T) {
	one, two := open(t, 1, 5, "CREATE TABLE t (a INT)"), open(t, 2, 3)
	one.ok(0, "BEGIN")
	one.ok(0, "INSERT INTO t VALUES (1)")
	two.told("another engine", two.all(), "[] [{0 false false false} {0 false false false}] [] [] [] true")
	two.says(1, "SELECT * FROM t", "1/1 code 160")
	two.says(0, "CREATE TABLE t (z TEXT)", "2/2")
	one.says(0, "SELECT * FROM t", "2/0 [a] 1")
}
