package undo_test

import (
	"fmt"
	"math"
	"slices"
	"testing"

	"hasp/api"
	"hasp/catalog"
	"hasp/undo"
)

func whole(n int64) api.Value { return api.Value{Kind: api.Int, Num: n} }

// numbers is a table of one column with a unique index.
func numbers(name string) api.Table {
	return api.Table{Name: name, Cols: []api.Column{{Name: "a", Type: api.Int}}, Indexes: []api.Index{{Name: name + "i", Cols: []int{0}, Unique: true}}}
}

// add is a change with a new row.
func add(n int64) api.Change { return api.Change{Row: []api.Value{whole(n)}} }

func del(id int) api.Change { return api.Change{Id: id, Del: true} }

func set(id int, n int64) api.Change {
	c := add(n)
	c.Id = id
	return c
}

func list(c ...api.Change) []api.Change { return c }

// all holds that calls answered OK.
func all(t *testing.T, codes ...api.Errno) {
	t.Helper()
	for place, code := range codes {
		if code != api.OK {
			t.Fatalf("%d: %d", place, code)
		}
	}
}

// begin gives a store with the table t and the rows 1 and 2, and transactions over it, none of them open.
func begin(t *testing.T) (*catalog.Store, *undo.Txns) {
	t.Helper()
	s := catalog.New()
	x := undo.New(s)
	_, code := s.Make(numbers("t"))
	_, more := s.Apply("t", list(add(1), add(2)))
	all(t, code, more)
	return s, x
}

// state gives what a store holds, as text: its tables' rows with their numbers.
func state(s *catalog.Store) string {
	text := ""
	for _, desc := range s.Tables() {
		x, _ := s.Table(desc.Name)
		text += fmt.Sprint(desc)
		for id, ok := x.Behind(0); ok; id, ok = x.Behind(id) {
			row, _ := x.Row(id)
			text += fmt.Sprint(" ", id, row)
		}
		text += "\n"
	}
	return text
}

// shut are numbers of no open transactions, if 1 to 3 were begun, and 2 is open.
var shut = []int{1, 3, 0, -1, 4, math.MaxInt, math.MinInt}

// threeBegun gives transactions of which 2 is open, and has noted a call.
func threeBegun(t *testing.T) (*catalog.Store, *undo.Txns) {
	t.Helper()
	s, x := begin(t)
	for want := 1; want <= 3; want++ {
		if got := x.Begin(); got != want {
			t.Fatalf("Begin = %d, not %d", got, want)
		}
	}
	n, code := x.Commit(1)
	all(t, code, x.Rollback(3), x.Apply(2, "t", list(del(1))))
	if n != 1 {
		t.Fatalf("Commit = %d", n)
	}
	return s, x
}

func TestP21_1Begin(t *testing.T) {
	s := catalog.New()
	x := undo.New(s)
	if got := x.Open(); len(got) != 0 {
		t.Errorf("Open = %v", got)
	}
	for want := 1; want <= 20; want++ {
		if got := x.Begin(); got != want {
			t.Errorf("Begin = %d, not %d", got, want)
		}
	}
	for _, txn := range []int{20, 7, 1} {
		all(t, x.Rollback(txn))
	}
	if got := x.Begin(); got != 21 {
		t.Errorf("Begin = %d", got)
	}
	for want, txn := range []int{12, 3, 21} {
		if got, code := x.Commit(txn); got != want+1 || code != api.OK {
			t.Errorf("Commit(%d) = %d, %d", txn, got, code)
		}
	}
	if got := fmt.Sprint(x.Open()); got != "[2 4 5 6 8 9 10 11 13 14 15 16 17 18 19]" {
		t.Errorf("Open = %s", got)
	}
	y := undo.New(s)
	if got := y.Begin(); got != 1 || len(y.Open()) != 1 || len(x.Open()) != 15 {
		t.Errorf("Begin = %d, Open = %v, %v", got, y.Open(), x.Open())
	}
}

// TestP21_1Shut ends transactions that aren't open.
func TestP21_1Shut(t *testing.T) {
	s, x := threeBegun(t)
	before := state(s)
	for _, txn := range shut {
		if n, code := x.Commit(txn); n != 0 || code != api.ErrState {
			t.Errorf("Commit(%d) = %d, %d", txn, n, code)
		}
		if code := x.Rollback(txn); code != api.ErrState {
			t.Errorf("Rollback(%d) = %d", txn, code)
		}
	}
	if got := x.Open(); !slices.Equal(got, []int{2}) || state(s) != before {
		t.Errorf("Open = %v, %s", got, state(s))
	}
	if n, code := x.Commit(2); n != 2 || code != api.OK || state(s) != before || len(x.Open()) != 0 {
		t.Errorf("Commit = %d, %d, %s", n, code, state(s))
	}
}

// TestP21_1Memory holds that answers are new memory.
func TestP21_1Memory(t *testing.T) {
	_, x := threeBegun(t)
	for range 3 {
		x.Begin()
	}
	first := x.Open()
	clear(first[:cap(first)])
	if got := fmt.Sprint(x.Open()); got != "[2 4 5 6]" {
		t.Errorf("Open = %s", got)
	}
}

// TestP21_1Last undoes a transaction's calls of all kinds, which want the last to be undone first.
func TestP21_1Last(t *testing.T) {
	s, x := begin(t)
	before := state(s)
	txn := x.Begin()
	all(t,
		x.Apply(txn, "t", list(set(1, 3), add(4))),
		x.Apply(txn, "t", list(set(1, 5), del(3))),
		x.Apply(txn, "t", list(del(1))),
		x.DropIndex(txn, "ti"),
		x.Apply(txn, "t", list(add(7), add(7))),
		x.AddIndex(txn, "t", api.Index{Name: "x", Cols: []int{0}}),
		x.Make(txn, numbers("u")),
		x.Apply(txn, "u", list(add(1))),
		x.Drop(txn, "t"),
		x.Make(txn, api.Table{Name: "t", Cols: numbers("t").Cols, Indexes: []api.Index{{Name: "ti", Cols: []int{0}}}}),
		x.Apply(txn, "t", list(add(1), add(1), add(1))),
		x.Drop(txn, "u"),
	)
	if got := x.Mark(txn); got != 12 {
		t.Errorf("Mark = %d", got)
	}
	if code := x.Rollback(txn); code != api.OK || state(s) != before || !s.Sound() || len(x.Open()) != 0 {
		t.Errorf("%d, %s, not %s", code, state(s), before)
	}
}

// TestP21_2Codes holds that the calls answer what the store does, and that those that fail aren't noted.
func TestP21_2Codes(t *testing.T) {
	s, x := begin(t)
	txn := x.Begin()
	before := state(s)
	for place, c := range []struct{ got, want api.Errno }{
		{x.Apply(txn, "u", nil), api.ErrTable}, {x.Apply(txn, "systables", nil), api.ErrSystem}, {x.Apply(txn, "t", list(del(3))), api.ErrArg},
		{x.Apply(txn, "t", list(del(1), add(2))), api.ErrUnique}, {x.Apply(txn, "t", list(api.Change{})), api.ErrArity},
		{x.Make(txn, api.Table{}), api.ErrName}, {x.Make(txn, numbers("t")), api.ErrExists}, {x.Make(txn, numbers("sysindexes")), api.ErrExists},
		{x.Drop(txn, "u"), api.ErrTable}, {x.Drop(txn, "syscolumns"), api.ErrSystem},
		{x.AddIndex(txn, "u", api.Index{}), api.ErrTable}, {x.AddIndex(txn, "systables", api.Index{}), api.ErrSystem}, {x.AddIndex(txn, "t", api.Index{Name: "ti"}), api.ErrExists},
		{x.AddIndex(txn, "t", api.Index{Name: "x"}), api.ErrMany}, {x.DropIndex(txn, "x"), api.ErrIndex},
	} {
		if c.got != c.want {
			t.Errorf("%d: %d, not %d", place, c.got, c.want)
		}
	}
	if state(s) != before || x.Mark(txn) != 0 || x.Gone(0, "t") != 0 {
		t.Errorf("%s, Mark = %d, Gone = %d", state(s), x.Mark(txn), x.Gone(0, "t"))
	}
	all(t, x.Apply(txn, "t", list(add(8))), x.Make(txn, numbers("u")), x.AddIndex(txn, "t", api.Index{Name: "x", Cols: []int{0}}), x.DropIndex(txn, "ti"), x.Apply(txn, "u", nil))
	if got := x.Mark(txn); got != 5 {
		t.Errorf("Mark = %d", got)
	}
	all(t, x.Drop(txn, "u"))
	if got := state(s); got != "{t [{a 2 false}] [{x [0] false}]} 1 [{2 1 }] 2 [{2 2 }] 3 [{2 8 }]\n" || x.Mark(txn) != 6 {
		t.Errorf("%s, Mark = %d", got, x.Mark(txn))
	}
}

// TestP21_2Shut calls in transactions that aren't open: ErrState comes ahead of all that the store says.
func TestP21_2Shut(t *testing.T) {
	s, x := threeBegun(t)
	before := state(s)
	for _, txn := range shut {
		for place, code := range []api.Errno{
			x.Apply(txn, "t", list(add(8))), x.Apply(txn, "no", nil), x.Apply(txn, "systables", nil),
			x.Make(txn, numbers("u")), x.Make(txn, api.Table{}),
			x.Drop(txn, "t"), x.Drop(txn, "no"),
			x.AddIndex(txn, "t", api.Index{Name: "x", Cols: []int{0}}), x.AddIndex(txn, "no", api.Index{}),
			x.DropIndex(txn, "ti"), x.DropIndex(txn, "no"),
			x.Back(txn, 0), x.Back(txn, 1), x.Back(txn, -1),
		} {
			if code != api.ErrState {
				t.Errorf("%d, %d: %d", txn, place, code)
			}
		}
		if got := x.Mark(txn); got != 0 || state(s) != before {
			t.Errorf("%d: Mark = %d, %s", txn, got, state(s))
		}
	}
	if got := x.Mark(2); got != 1 {
		t.Errorf("Mark = %d", got)
	}
}

// TestP21_3Marks goes back to each mark of each length.
func TestP21_3Marks(t *testing.T) {
	for mark := range 6 {
		s, x := begin(t)
		txn := x.Begin()
		marks := []string{state(s)}
		for n := range 5 {
			all(t, x.Apply(txn, "t", list(set(1, int64(10+n)), add(int64(20+n)))))
			marks = append(marks, state(s))
			if got := x.Mark(txn); got != n+1 {
				t.Errorf("Mark = %d", got)
			}
		}
		for _, wrong := range []int{-1, 6, math.MinInt, math.MaxInt} {
			if code := x.Back(txn, wrong); code != api.ErrArg || state(s) != marks[5] || x.Mark(txn) != 5 {
				t.Errorf("Back(%d) = %d, %s", wrong, code, state(s))
			}
		}
		for range 2 {
			if code := x.Back(txn, mark); code != api.OK || state(s) != marks[mark] || x.Mark(txn) != mark || !s.Sound() {
				t.Errorf("Back(%d) = %d, %s, Mark = %d", mark, code, state(s), x.Mark(txn))
			}
		}
		if code := x.Back(txn, mark+1); code != api.ErrArg {
			t.Errorf("Back(%d) = %d", mark+1, code)
		}
		all(t, x.Apply(txn, "t", list(add(99))))
		if mark%2 == 0 {
			all(t, x.Rollback(txn))
		} else {
			all(t, x.Back(txn, 0))
		}
		if got := state(s); got != marks[0] {
			t.Errorf("%s, not %s", got, marks[0])
		}
	}
}

// TestP21_3Kept holds that what was undone isn't undone again, and that what was committed stays.
func TestP21_3Kept(t *testing.T) {
	s, x := begin(t)
	first, second := x.Begin(), x.Begin()
	all(t, x.Apply(first, "t", list(set(1, 5))), x.Back(first, 0), x.Apply(second, "t", list(set(1, 6))))
	_, code := x.Commit(second)
	all(t, code, x.Rollback(first))
	if got := state(s); got != "{t [{a 2 false}] [{ti [0] true}]} 1 [{2 6 }] 2 [{2 2 }]\n" {
		t.Errorf("%s", got)
	}
}

func TestP21_4Example(t *testing.T) {
	s, x := begin(t)
	_, code := s.Make(numbers("u"))
	_, more := s.Apply("t", list(del(1), del(2)))
	first, second := x.Begin(), x.Begin()
	all(t, code, more, x.Apply(first, "t", list(add(1))), x.Apply(second, "u", list(add(2))), x.Rollback(first))
	if got := fmt.Sprint(s.Dump()); got != "[{{t [{a 2 false}] [{ti [0] true}]} []} {{u [{a 2 false}] [{ui [0] true}]} [[{2 2 }]]}]" {
		t.Errorf("%s", got)
	}
	if n, code := x.Commit(second); n != 1 || code != api.OK {
		t.Errorf("Commit = %d, %d", n, code)
	}
}

// TestP21_4Between undoes one of two transactions that changed rows of one table in turns.
func TestP21_4Between(t *testing.T) {
	s, x := begin(t)
	a, b := x.Begin(), x.Begin()
	all(t, x.Apply(a, "t", list(set(1, 5), add(10))), x.Apply(b, "t", list(set(2, 1), add(11))), x.Apply(a, "t", list(del(1))), x.Apply(b, "t", list(add(12), set(4, 5))))
	all(t, x.Rollback(a))
	if got := state(s); got != "{t [{a 2 false}] [{ti [0] true}]} 1 [{2 1 }] 2 [{2 1 }] 4 [{2 5 }] 5 [{2 12 }]\n" || !s.Sound() {
		t.Errorf("%s", got)
	}
	all(t, x.Back(b, 1))
	if got := state(s); got != "{t [{a 2 false}] [{ti [0] true}]} 1 [{2 1 }] 2 [{2 1 }] 4 [{2 11 }]\n" || !s.Sound() {
		t.Errorf("%s", got)
	}
}

func TestP21_5Gone(t *testing.T) {
	_, x := begin(t)
	a, b := x.Begin(), x.Begin()
	gone := func(txn int, name string, want int) {
		t.Helper()
		if got := x.Gone(txn, name); got != want {
			t.Errorf("Gone(%d, %q) = %d, not %d", txn, name, got, want)
		}
	}
	all(t, x.Make(b, numbers("u")), x.Apply(b, "u", list(add(1), add(2), add(3))))
	all(t, x.Apply(a, "t", list(add(3), add(4), set(1, 5))))
	gone(b, "t", 0)
	all(t, x.Apply(a, "t", list(del(3), set(1, 1), del(4))), x.Apply(b, "t", list(del(2))), x.Apply(b, "u", list(del(1), del(2))))
	gone(b, "t", 2)
	gone(a, "t", 1)
	gone(0, "t", 3)
	gone(99, "t", 3)
	gone(-1, "u", 2)
	gone(b, "u", 0)
	gone(a, "no", 0)
	gone(0, "systables", 0)
	all(t, x.Back(a, 0))
	gone(b, "t", 2)
	all(t, x.Apply(a, "t", list(del(1))))
	gone(b, "t", 3)
	if code := x.Apply(a, "t", list(del(1))); code != api.ErrArg {
		t.Errorf("%d", code)
	}
	gone(b, "t", 3)
	all(t, x.Drop(b, "u"))
	gone(a, "u", 2)
	all(t, x.Rollback(b))
	gone(a, "t", 0)
	gone(0, "u", 0)
	gone(0, "t", 3)
	gone(b, "t", 3)
	_, code := x.Commit(a)
	all(t, code)
	gone(0, "t", 0)
}
