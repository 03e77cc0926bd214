package vm_test

import (
	"testing"

	"hasp/api"
	"hasp/vm"
)

// loop gives a plan that opens a cursor, and answers the columns a and b of each row.
func loop(open api.Instr, mode, part int) []api.Instr {
	c := open.C
	return []api.Instr{open, nextIn(c, 4, mode, part), emit(col(c, 0), col(c, 1)), jump(1), halt()}
}

func TestP24_6ByRows(t *testing.T) {
	w := sample(t)
	w.change("t", api.Change{Id: 2, Del: true})
	w.put("t", ints(0, 5))
	for c := range api.MaxFrom {
		r := w.start(loop(rowsOf(c, "t"), 0, api.S)...)
		w.answers("by the rows", r, "1,10 3,30 0,5")
		w.holds("by the rows", w.x.Open()[0], "r/t/1 S", "r/t/3 S", "r/t/4 S")
		w.commit(w.x.Open()[0])
	}
	w.answers("without locks", w.start(loop(rowsOf(0, "t"), 0, 0)...), "1,10 3,30 0,5")
	w.answers("with a mode that rows have no use for", w.start(loop(rowsOf(0, "t"), api.X, 0)...), "1,10 3,30 0,5")
	for _, txn := range w.x.Open() {
		w.holds("without locks", txn)
	}
	bounded := rowsOf(0, "t")
	bounded.Lo, bounded.Hi = codes(null()), codes(num(1))
	w.answers("bounds have no use there", w.start(loop(bounded, 0, 0)...), "1,10 3,30 0,5")
}

func TestP24_6SystemTables(t *testing.T) {
	w := sample(t)
	r := w.start(rowsOf(0, "systables"), next(0, 4), emit(col(0, 0)), jump(1), halt())
	w.answers("systables", r, "t u")
	w.answers("sysindexes", w.start(w.plan("SELECT name, cols FROM sysindexes ORDER BY name DESC").Code...), "j,b i,a")
}

func TestP24_6EmptyTable(t *testing.T) {
	w := empty(t, 5)
	w.is("Make", w.x.Make(w.x.Begin(), desc("t", index("i", 0))))
	w.goes("by the rows", w.start(loop(rowsOf(0, "t"), api.S, api.S)...), "RRD")
	w.holds("by the rows", 2)
	w.goes("along an index", w.start(loop(along(0, "t", 0, nil, nil), api.S, api.S)...), "RRD")
	w.holds("along an index", 3, "e/t/i S")
}

// TestP24_6Bounds goes along an index over a, b from all beginnings to all ends.
func TestP24_6Bounds(t *testing.T) {
	w := empty(t, 20)
	w.is("Make", w.x.Make(w.x.Begin(), desc("t", index("i", 0, 1))))
	w.put("t", ints(2, 1), ints(1, 2), ints(1, 1), ints(-9, 3), ints(3, -9), ints(2, 1), ints(-5, 0))
	for _, c := range []struct {
		what         string
		lo, hi       []api.Code
		loOut, hiOut bool
		want         string
	}{
		{"all", nil, nil, false, false, "-,3 -5,0 1,1 1,2 2,1 2,1 3,-"},
		{"all, whatever is out", nil, nil, true, true, "-,3 -5,0 1,1 1,2 2,1 2,1 3,-"},
		{"from 1", codes(num(1)), nil, false, true, "1,1 1,2 2,1 2,1 3,-"},
		{"behind 1", codes(num(1)), nil, true, false, "2,1 2,1 3,-"},
		{"to 2", nil, codes(num(2)), true, false, "-,3 -5,0 1,1 1,2 2,1 2,1"},
		{"ahead of 2", nil, codes(num(2)), false, true, "-,3 -5,0 1,1 1,2"},
		{"from 1 to 1", codes(num(1)), codes(num(1)), false, false, "1,1 1,2"},
		{"behind 1 to 1", codes(num(1)), codes(num(1)), true, false, ""},
		{"from 1 to ahead of 1", codes(num(1)), codes(num(1)), false, true, ""},
		{"from 2 to 1", codes(num(2)), codes(num(1)), false, false, ""},
		{"1, 2", codes(num(1), num(2)), codes(num(1), num(2)), false, false, "1,2"},
		{"from 1, 2", codes(num(1), num(2)), nil, false, false, "1,2 2,1 2,1 3,-"},
		{"behind 1, 1 to 2", codes(num(1), num(1)), codes(num(2)), true, false, "1,2 2,1 2,1"},
		{"from 1, 2 to ahead of 2, 1", codes(num(1), num(2)), codes(num(2), num(1)), false, true, "1,2"},
		{"more values than columns", codes(num(2), num(1), num(1)), codes(num(2), num(1), num(6)), false, false, "2,1 2,1"},
		{"with the row's number out", codes(num(2), num(1), num(1)), codes(num(2), num(1), num(6)), true, true, ""},
		{"beyond all", codes(num(9)), nil, false, false, ""},
		{"ahead of all", nil, codes(num(-7)), false, false, "-,3"},
		{"of another kind", codes(api.Code{Op: api.OpConst, Val: api.Value{Kind: api.Bool}}), nil, false, false, "-5,0 1,1 1,2 2,1 2,1 3,-"},
	} {
		open := along(1, "t", 0, c.lo, c.hi)
		open.LoOut, open.HiOut = c.loOut, c.hiOut
		w.answers(c.what, w.start(loop(open, 0, 0)...), c.want)
	}
}

// TestP24_6BoundErrors leaves an error and all behind it out, and then the bound itself is in.
func TestP24_6BoundErrors(t *testing.T) {
	w := sample(t)
	for _, c := range []struct {
		what   string
		lo, hi []api.Code
		want   string
	}{
		{"an error", codes(zero()), codes(zero()), "1,10 2,20 3,30"},
		{"an error, and more", codes(zero(), num(3)), codes(zero(), num(1)), "1,10 2,20 3,30"},
		{"Null behind an error", codes(zero(), null()), codes(zero(), null()), "1,10 2,20 3,30"},
		{"a value ahead of an error", codes(num(2), zero()), nil, "2,20 3,30"},
		{"a value ahead of an error", nil, codes(num(2), zero()), "1,10 2,20"},
		{"Null ahead of an error", nil, codes(null(), zero()), ""},
		{"no such column", codes(col(2, 0)), nil, "1,10 2,20 3,30"},
	} {
		open := along(0, "t", 0, c.lo, c.hi)
		open.LoOut, open.HiOut = true, true
		w.answers(c.what, w.start(loop(open, api.S, api.S)...), c.want)
	}
}

// TestP24_6BoundsNull asks for nothing, where a bound is Null.
func TestP24_6BoundsNull(t *testing.T) {
	w := sample(t)
	for _, open := range []api.Instr{
		along(0, "t", 0, codes(null()), nil),
		along(0, "t", 0, nil, codes(null())),
		along(0, "t", 0, codes(num(1), null()), codes(num(3))),
		along(0, "t", 1, codes(num(1)), codes(num(1), null())),
		along(0, "t", 1, codes(num(1)), codes(num(1), of(api.OpNeg, null()), zero())),
	} {
		txn := w.x.Begin()
		r := w.m.Start(txn, api.Plan{Code: loop(open, api.X, api.X)})
		w.goes("Null", r, "RRD")
		w.told("Null", rowsText(r.Result()), "")
		w.holds("Null", txn)
	}
}

// TestP24_6BoundsOverRows takes bounds from other cursors' rows, and from the cursor's own, as it was.
func TestP24_6BoundsOverRows(t *testing.T) {
	w := sample(t)
	w.put("u", ints(3, 1), ints(7, 1))
	bound := codes(col(0, 0))
	join := []api.Instr{rowsOf(0, "u"), next(0, 6), along(1, "t", 0, bound, bound), next(1, 1), emit(col(0, 0), col(0, 1), col(1, 1)), jump(3), halt()}
	w.answers("of another cursor", w.start(join...), "1,0,10 2,-,20 3,3,30 3,1,30")
	own := []api.Instr{along(0, "t", 0, codes(num(2)), nil), next(0, 5), along(0, "t", 1, codes(of(api.OpMul, num(10), col(0, 0))), nil), next(0, 5), emit(col(0, 1)), halt()}
	w.answers("of its own row", w.start(own...), "20")
	gone := []api.Instr{along(0, "t", 0, nil, nil), next(0, 5), emit(col(0, 0)), rowsOf(0, "t"), emit(col(0, 0)), halt()}
	w.answers("an opened cursor is at no row", w.start(gone...), "error 161 0 0")
}

// TestP24_6Locks holds which entries and rows are asked for.
func TestP24_6Locks(t *testing.T) {
	w := sample(t)
	one := func(open api.Instr, mode, part int, want ...string) {
		t.Helper()
		txn := w.x.Begin()
		w.told("goes along", last(w.m.Start(txn, api.Plan{Code: loop(open, mode, part)})), "D")
		w.holds("goes along", txn, want...)
		w.commit(txn)
	}
	two := codes(num(2))
	one(along(0, "t", 0, two, two), api.S, api.U, "k/t/i/2#2 S", "k/t/i/3#3 S", "r/t/2 U")
	one(along(0, "t", 0, two, nil), api.U, api.S, "k/t/i/2#2 U", "k/t/i/3#3 U", "e/t/i U", "r/t/2 S", "r/t/3 S")
	one(along(0, "t", 0, two, two), 0, api.X, "r/t/2 X")
	one(along(0, "t", 0, two, two), api.X, 0, "k/t/i/2#2 X", "k/t/i/3#3 X")
	one(along(0, "t", 0, two, two), 0, 0)
	one(along(0, "t", 1, codes(num(11)), codes(num(15))), api.S, api.S, "k/t/j/20#2 S")
	one(along(0, "t", 1, codes(num(31)), nil), api.S, api.S, "e/t/j S")
	one(along(0, "t", 1, nil, codes(num(31))), api.IS, api.IX, "k/t/j/10#1 IS", "k/t/j/20#2 IS", "k/t/j/30#3 IS", "e/t/j IS", "r/t/1 IX", "r/t/2 IX", "r/t/3 IX")
}

// TestP24_1BlockedNext waits for an entry, for a row, for what bounds the last gap: the cursor stays where it is.
func TestP24_1BlockedNext(t *testing.T) {
	w := sample(t)
	two, _ := w.s.Table("t")
	key := two.Key(0, ints(2, 20), 2)
	for _, res := range []string{vm.ResKey("t", "i", key), vm.ResRow("t", 2), vm.ResEnd("t", "i")} {
		other, txn := w.x.Begin(), w.x.Begin()
		w.l.Ask(other, res, api.X)
		r := w.m.Start(txn, api.Plan{Code: []api.Instr{along(0, "t", 0, nil, nil), nextIn(0, 4, api.S, api.S), emit(col(0, 0)), jump(1), emit(num(7)), halt()}})
		got := states(r)
		w.told(res, got[len(got)-1:], "B")
		before := rowsText(r.Result())
		w.goes(res, r, "B")
		w.told(res, rowsText(r.Result()), before)
		w.l.Drop(other)
		w.answers(res, r, "1 2 3 7")
		w.commit(txn)
	}
	other, txn := w.x.Begin(), w.x.Begin()
	w.l.Ask(other, vm.ResRow("t", 2), api.X)
	r := w.m.Start(txn, api.Plan{Code: loop(rowsOf(0, "t"), 0, api.S)})
	w.goes("by the rows", r, "RRRRB")
	w.holds("by the rows", txn, "r/t/1 S")
	w.l.Drop(other)
	w.answers("by the rows", r, "1,10 2,20 3,30")
}

// TestP24_1BlockedMeanwhile lets entries come and go while a run waits: what it goes to is found anew.
func TestP24_1BlockedMeanwhile(t *testing.T) {
	w := sample(t)
	other, txn := w.x.Begin(), w.x.Begin()
	w.is("Apply", w.x.Apply(other, "t", []api.Change{{Id: 2, Row: ints(9, 9)}, {Row: ints(0, 5)}}))
	w.l.Ask(other, vm.ResRow("t", 3), api.X)
	r := w.m.Start(txn, api.Plan{Code: loop(along(0, "t", 0, codes(num(1)), codes(num(8))), 0, api.S)})
	w.goes("up to the row 3", r, "RRRRB")
	w.is("Rollback", w.x.Rollback(other))
	w.l.Drop(other)
	w.answers("behind it", r, "1,10 2,20 3,30")
	w.holds("behind it", txn, "r/t/1 S", "r/t/2 S", "r/t/3 S")
}

// TestP24_6Moving changes a table while a cursor goes along it: it goes on behind where it stood.
func TestP24_6Moving(t *testing.T) {
	w := sample(t)
	r := w.start(loop(along(0, "t", 0, nil, nil), 0, 0)...)
	step := func(n int) {
		for range n {
			r.Step()
		}
	}
	step(3)
	w.change("t", api.Change{Id: 1, Del: true}, api.Change{Id: 2, Row: ints(0, 20)})
	w.put("t", ints(2, 4))
	step(3)
	w.told("along", rowsText(r.Result()), "1,10 2,4")
	w.put("t", ints(5, 5))
	w.answers("along", r, "1,10 2,4 3,30 5,5")
	by := w.start(loop(rowsOf(0, "t"), 0, 0)...)
	by.Step()
	by.Step()
	w.change("t", api.Change{Id: 2, Row: ints(8, 8)}, api.Change{Id: 3, Del: true})
	w.answers("by the rows, the row as it was when the cursor came to it", by, "0,20 2,4 5,5")
}

// TestP24_6Again asks a cursor at its end to go on: it goes to what has come behind where it stood last.
func TestP24_6Again(t *testing.T) {
	for _, open := range []api.Instr{rowsOf(0, "t"), along(0, "t", 0, nil, nil)} {
		w := sample(t)
		r := w.start(open, next(0, 4), emit(col(0, 0)), jump(1), emit(num(0)), next(0, 7), emit(col(0, 0)), halt())
		for range 12 {
			r.Step()
		}
		w.told("at the end", rowsText(r.Result()), "1 2 3 0")
		w.put("t", ints(4, 4))
		w.answers("behind it", r, "1 2 3 0 4")
		w.answers("nothing has come", w.start(open, next(0, 4), emit(col(0, 0)), jump(1), emit(num(0)), next(0, 7), emit(col(0, 0)), halt()), "1 2 3 4 0")
	}
}

// TestP24_6Cursors has four cursors at once, and opens one anew.
func TestP24_6Cursors(t *testing.T) {
	w := sample(t)
	r := w.start(
		rowsOf(0, "t"), along(1, "t", 0, codes(num(2)), nil), rowsOf(2, "u"), along(3, "t", 1, codes(num(30)), nil),
		next(0, 99), next(1, 99), next(2, 99), next(2, 99), next(3, 99),
		emit(col(0, 0), col(1, 0), col(2, 0), col(3, 0)),
		rowsOf(0, "u"), next(0, 99), next(1, 99), emit(col(0, 1), col(1, 0), col(2, 0), col(3, 0)),
		next(1, 15), emit(col(0, 1), col(2, 0), col(3, 1)), halt())
	w.goes("four", r, "RRRRRRRRRRRRRRRRD")
	w.told("four", rowsText(r.Result()), "1,2,2,3 0,3,2,3 0,2,30")
	closed := w.start(rowsOf(0, "t"), next(0, 9), emit(col(0, 0)), emit(col(1, 0)), halt())
	w.answers("a closed cursor has no row", closed, "error 161 0 0")
}
