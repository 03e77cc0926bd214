package vm_test

import (
	"math"
	"testing"

	"hasp/api"
	"hasp/vm"
)

// fails holds that a plan goes on to some instruction, and ends there with ErrPlan, and that this instruction has done nothing.
func (w *world) fails(what, table string, steps int, code ...api.Instr) {
	w.Helper()
	locked, rows, system := len(w.l.Locks()), w.table("t"), w.table("systables")
	r := w.startOn(table, append(code, emit(num(1)), halt())...)
	for range steps {
		if got := r.Step(); got != api.Running {
			w.Errorf("%s: %d, ahead of the fault", what, got)
		}
	}
	for range 2 {
		if got := r.Step(); got != api.Done {
			w.Errorf("%s: %d, not Done", what, got)
		}
	}
	if got := r.Result(); got.Code != api.ErrPlan || len(got.Rows) > 0 || got.Count != 0 {
		w.Errorf("%s: %v", what, got)
	}
	if len(w.l.Locks()) != locked || w.table("t") != rows || w.table("systables") != system {
		w.Errorf("%s: something has happened", what)
	}
}

// right holds that a plan goes on to its end.
func (w *world) right(what, table string, code ...api.Instr) {
	w.Helper()
	txn := w.x.Begin()
	r := w.m.Start(txn, api.Plan{Table: table, Code: append(code, halt())})
	w.told(what, last(r), "D")
	if r.Result().Code == api.ErrPlan {
		w.Errorf("%s: ErrPlan", what)
	}
	w.is("Rollback", w.x.Rollback(txn))
	w.l.Drop(txn)
}

func TestP24_1WrongPlaces(t *testing.T) {
	w := sample(t)
	w.fails("a place of none", "", 1, jump(-1))
	w.fails("a place of none", "", 1, jump(3))
	w.fails("a place of none", "", 1, jump(math.MaxInt))
	w.fails("a place of none", "", 1, jump(math.MinInt))
	w.fails("a test to nowhere", "", 1, test(0, 9, truth(false)))
	w.fails("a cursor's end nowhere", "", 2, along(0, "t", 0, codes(num(9)), nil), next(0, -1))
	for _, code := range [][]api.Instr{nil, {jump(1)}, {emit(num(1))}, {test(0, 9, truth(true))}} {
		r := w.start(code...)
		w.told("no halt", last(r), "D")
		w.told("no halt", rowsText(r.Result()), "error 240 0 0")
	}
	w.right("a place that isn't gone to", "", jump(1))
	w.right("a place that isn't gone to", "", test(0, -1, truth(true)))
}

func TestP24_1WrongOperators(t *testing.T) {
	w := sample(t)
	for _, op := range []int{0, -1, 13, 14, math.MaxInt, math.MinInt, 1 << 32} {
		w.fails("no operator", "t", 0, api.Instr{Op: op, Table: "t", Mode: api.X, E: codes(truth(true))})
	}
}

func TestP24_1WrongCursors(t *testing.T) {
	w := sample(t)
	for _, c := range []int{-1, 4, math.MaxInt, math.MinInt, 1 << 32} {
		w.fails("opened", "", 0, rowsOf(c, "t"))
		w.fails("next", "", 1, rowsOf(0, "t"), nextIn(c, 2, api.S, api.S))
		w.fails("tested", "", 0, test(c, 2, truth(true)))
		w.fails("tested, with an error", "", 0, test(c, 2, zero()))
		w.right("others have no use for it", "t", api.Instr{Op: api.InLock, C: c, Table: "t", Mode: api.IS}, api.Instr{Op: api.InEmit, C: c}, api.Instr{Op: api.InJump, C: c, To: 3}, api.Instr{Op: api.InSort, C: c}, api.Instr{Op: api.InGuard, C: c}, api.Instr{Op: api.InApply, C: c}, api.Instr{Op: api.InMake, C: c})
	}
}

func TestP24_1WrongOpens(t *testing.T) {
	w := sample(t)
	for _, name := range []string{"", "w", "T", "t ", "i", "sysindexes2"} {
		w.fails("no table", "", 0, rowsOf(0, name))
		w.fails("no table", "t", 0, along(0, name, 0, nil, nil))
	}
	for _, index := range []int{-2, 2, 3, math.MaxInt, math.MinInt} {
		w.fails("no index", "", 0, along(0, "t", index, nil, nil))
	}
	w.fails("none of that table", "", 0, along(0, "u", 0, nil, nil))
	w.fails("a system table has none", "", 0, along(0, "systables", 0, nil, nil))
	w.right("the last one", "", along(0, "t", 1, nil, nil))
	w.fails("a wrong open leaves the cursor as it was", "", 2, rowsOf(0, "u"), next(0, 9), along(0, "t", 2, nil, nil))
}

func TestP24_1WrongNexts(t *testing.T) {
	w := sample(t)
	for c := range api.MaxFrom {
		w.fails("closed", "", 0, nextIn(c, 1, api.S, api.S))
		w.fails("another one is open", "", 1, rowsOf((c+1)%api.MaxFrom, "t"), nextIn(c, 1, api.S, api.S))
	}
	for _, mode := range []int{-1, 7, math.MaxInt, math.MinInt, 1 << 32} {
		for _, open := range []api.Instr{rowsOf(0, "t"), along(0, "t", 0, nil, nil), along(0, "t", 0, codes(null()), nil), along(0, "t", 0, codes(num(9)), nil)} {
			w.fails("no mode", "", 1, open, nextIn(0, 2, mode, api.S))
			w.fails("no mode", "", 1, open, nextIn(0, 2, api.S, mode))
		}
	}
	for mode := 0; mode <= api.X; mode++ {
		w.right("a mode", "", along(0, "t", 0, nil, nil), nextIn(0, 2, mode, 0))
		w.right("a mode", "", along(0, "t", 0, nil, nil), nextIn(0, 2, 0, mode))
	}
	for _, mode := range []int{0, -1, 7, math.MaxInt, math.MinInt} {
		w.fails("no mode of a table", "", 0, lock("t", mode))
	}
}

// TestP24_1WrongMeanwhile takes away what a cursor goes through.
func TestP24_1WrongMeanwhile(t *testing.T) {
	for _, c := range []struct {
		what string
		open api.Instr
		do   func(w *world, txn int) api.Errno
		want string
	}{
		{"the table, by the rows", rowsOf(0, "t"), func(w *world, txn int) api.Errno { return w.x.Drop(txn, "t") }, "error 240 0 0"},
		{"the table, along an index", along(0, "t", 0, nil, nil), func(w *world, txn int) api.Errno { return w.x.Drop(txn, "t") }, "error 240 0 0"},
		{"the table, without entries", along(0, "t", 0, codes(null()), nil), func(w *world, txn int) api.Errno { return w.x.Drop(txn, "t") }, "error 240 0 0"},
		{"the index", along(0, "t", 1, nil, nil), func(w *world, txn int) api.Errno { return w.x.DropIndex(txn, "j") }, "error 240 0 0"},
		{"the index, without entries", along(0, "t", 1, nil, codes(null())), func(w *world, txn int) api.Errno { return w.x.DropIndex(txn, "j") }, "error 240 0 0"},
		{"an index, by the rows", rowsOf(0, "t"), func(w *world, txn int) api.Errno { return w.x.DropIndex(txn, "j") }, "1,10 2,20 3,30"},
		{"another index behind it", along(0, "t", 0, nil, nil), func(w *world, txn int) api.Errno { return w.x.DropIndex(txn, "j") }, "1,10 2,20 3,30"},
		{"another table", along(0, "t", 0, nil, nil), func(w *world, txn int) api.Errno { return w.x.Drop(txn, "u") }, "1,10 2,20 3,30"},
	} {
		for steps := 1; steps <= 3; steps += 2 {
			if steps > 1 && len(c.open.Lo)+len(c.open.Hi) > 0 {
				continue // It is at its end then.
			}
			w := sample(t)
			txn := w.x.Begin()
			r := w.start(loop(c.open, 0, 0)...)
			for range steps {
				r.Step()
			}
			w.is(c.what, c.do(w, txn))
			w.answers(c.what, r, c.want)
			again := w.start(loop(c.open, 0, 0)...)
			again.Step()
			w.is(c.what, w.x.Rollback(txn))
			if c.want == "error 240 0 0" {
				w.told(c.what+", opened", rowsText(again.Result()), c.want)
			}
		}
	}
	w := sample(t)
	txn := w.x.Begin()
	r := w.start(loop(along(0, "t", 1, nil, nil), 0, 0)...)
	r.Step()
	w.is("Drop", w.x.Drop(txn, "t"))
	w.is("Rollback", w.x.Rollback(txn))
	w.answers("a table that is back", r, "1,10 2,20 3,30")
}

func TestP24_1WrongTests(t *testing.T) {
	w := sample(t)
	w.fails("no code", "", 0, test(0, 0))
	w.fails("two codes", "", 0, test(0, 0, truth(true), truth(true)))
	w.fails("two codes, not true", "", 0, test(0, 2, truth(false), truth(true)))
}

func TestP24_1WrongEmits(t *testing.T) {
	w := sample(t)
	for _, n := range []int{-1, 3, math.MaxInt, math.MinInt} {
		x := emit(num(1), num(2))
		x.N = n
		w.fails("so many", "", 0, x)
		w.fails("ahead of the tuple's error", "", 1, test(0, 9, zero()), x)
		x.E[1] = zero()
		r := w.start(x, emit(beyond()), halt())
		w.goes("behind the codes' error", r, "RRD")
		w.told("behind the codes' error", rowsText(r.Result()), "error 31 0 0")
	}
	w.fails("one of none", "", 0, api.Instr{Op: api.InEmit, N: 1})
}

func TestP24_1WrongPicks(t *testing.T) {
	w := sample(t)
	at := []api.Instr{rowsOf(0, "t"), next(0, 9)}
	other := []api.Instr{rowsOf(0, "u"), next(0, 9), rowsOf(1, "t"), next(1, 9)}
	for _, x := range []api.Instr{picks(), picks(num(7), num(7)), picks(num(7)), picks(truth(true), num(7))} {
		w.fails("closed", "t", 0, x)
		w.fails("another one is at a row", "t", 2, rowsOf(1, "t"), next(1, 9), x)
		w.fails("at no row yet", "t", 1, rowsOf(0, "t"), x)
		w.fails("at no row any more", "t", 2, along(0, "t", 0, codes(num(9)), nil), next(0, 2), x)
		w.fails("of another table", "t", 4, append(append([]api.Instr{}, other...), x)...)
		w.fails("the plan changes another one", "u", 2, append(append([]api.Instr{}, at...), x)...)
		w.fails("the plan changes none", "", 2, append(append([]api.Instr{}, at...), x)...)
		w.fails("the plan changes one that isn't there", "w", 2, append(append([]api.Instr{}, at...), x)...)
		w.fails("a system table", "systables", 2, rowsOf(0, "systables"), next(0, 9), x)
		w.fails("ahead of the tuple's error", "t", 1, test(0, 9, zero()), x)
		w.fails("a row went", "t", 4, append(append([]api.Instr{}, at...), along(0, "t", 0, codes(num(9)), nil), next(0, 4), x)...)
	}
	for _, c := range []struct{ table, what string }{{"t", "closed"}, {"", "none"}, {"systables", "a system table"}} {
		r := w.startOn(c.table, picks(zero(), num(1)), picks(beyond()), halt())
		w.goes(c.what, r, "RRD")
		w.told("behind the codes' error", rowsText(r.Result()), "error 31 0 0")
	}
	txn := w.x.Begin()
	gone := w.startOn("t", append(append([]api.Instr{}, at...), picks(), halt())...)
	gone.Step()
	gone.Step()
	w.is("Drop", w.x.Drop(txn, "t"))
	w.answers("the table has gone", gone, "error 240 0 0")
}

// TestP24_1WrongTables has plans that change what is no table of a user's.
func TestP24_1WrongTables(t *testing.T) {
	w := sample(t)
	for _, table := range []string{"", "w", "T", "systables", "syscolumns", "sysindexes"} {
		for _, x := range []api.Instr{makes(num(7), num(7)), makes(), makes(api.Code{Op: api.OpConst, Val: api.Value{Kind: api.Text, Text: "x"}}), guard(), apply()} {
			w.fails("no table", table, 0, x)
			w.fails("ahead of the tuple's error", table, 1, test(0, 9, zero()), x)
			w.fails("whatever error there is", table, 1, emit(zero()), x)
		}
		r := w.startOn(table, makes(zero()), emit(beyond()), halt())
		w.goes("no table", r, "RRD")
		w.told("behind the codes' error", rowsText(r.Result()), "error 31 0 0")
	}
	txn := w.x.Begin()
	for _, steps := range []int{1, 2, 3} {
		r := w.startOn("t", makes(num(7), num(7)), guard(), apply(), halt())
		for range steps - 1 {
			r.Step()
		}
		w.is("Drop", w.x.Drop(txn, "t"))
		w.answers("the table has gone", r, "error 240 0 0")
		w.is("Back", w.x.Back(txn, 0))
		for _, open := range w.x.Open() {
			w.l.Drop(open)
		}
	}
}

// TestP24_1WrongAheadOfLocks looks at the plan ahead of asking.
func TestP24_1WrongAheadOfLocks(t *testing.T) {
	w := sample(t)
	other := w.x.Begin()
	w.l.Ask(other, vm.ResRow("t", 1), api.X)
	w.l.Ask(other, vm.ResTable("t"), api.X)
	w.fails("next", "", 1, rowsOf(0, "t"), nextIn(0, 2, 9, api.S))
	r := w.startOn("w", guard(), halt())
	w.goes("guard", r, "D")
	w.told("guard", rowsText(r.Result()), "error 240 0 0")
}
