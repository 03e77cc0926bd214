package vm_test

import (
	"testing"

	"hasp/api"
)

// truth is a constant of kind Bool.
func truth(holds bool) api.Code {
	v := api.Value{Kind: api.Bool}
	if holds {
		v.Num = 1
	}
	return api.Code{Op: api.OpConst, Type: api.Bool, Val: v}
}

func TestP24_6Test(t *testing.T) {
	w := sample(t)
	for _, c := range []struct {
		what string
		e    api.Code
		want string
	}{
		{"true", truth(true), "1"},
		{"false", truth(false), "2"},
		{"unknown", null(), "2"},
		{"an error", zero(), "error 32 0 0"},
		{"no truth", num(1), "error 30 0 0"},
		{"no operator", api.Code{Op: 99}, "error 30 0 0"},
		{"no row", col(0, 0), "error 161 0 0"},
	} {
		w.answers(c.what, w.start(test(0, 3, c.e), emit(num(1)), halt(), emit(num(2)), halt()), c.want)
	}
}

// TestP24_6TupleErrors holds how the errors of the cursors come together, and when they go.
func TestP24_6TupleErrors(t *testing.T) {
	w := sample(t)
	for c := range api.MaxFrom {
		w.answers("of any cursor", w.start(test(c, 9, zero()), emit(num(1)), halt()), "error 32 0 0")
		other := (c + 1) % api.MaxFrom
		w.answers("the one that counts", w.start(test(c, 9, zero()), test(other, 9, beyond()), emit(num(1)), halt()), "error 31 0 0")
		w.answers("the one that counts", w.start(test(c, 9, beyond()), test(c, 9, zero()), emit(num(1)), halt()), "error 31 0 0")
	}
	w.answers("ahead of the codes", w.start(test(1, 9, zero()), emit(beyond()), halt()), "error 32 0 0")
	w.answers("a test that isn't true keeps the tuple out", w.start(test(1, 9, zero()), test(0, 3, truth(false)), emit(num(1)), halt()), "")
	w.answers("an error goes as the cursor is opened", w.start(test(1, 9, zero()), rowsOf(1, "t"), emit(num(1)), halt()), "1")
	w.answers("another cursor's stays", w.start(test(1, 9, zero()), rowsOf(0, "t"), next(0, 9), emit(num(1)), halt()), "error 32 0 0")
	w.answers("an error goes as the cursor comes to a row", w.start(rowsOf(1, "t"), test(1, 9, zero()), next(1, 9), emit(num(1)), halt()), "1")
	w.answers("at the end it stays", w.start(along(1, "t", 0, codes(num(9)), nil), test(1, 9, zero()), next(1, 3), emit(num(1)), halt()), "error 32 0 0")
	w.answers("nobody asks for it", w.start(test(1, 9, zero()), halt()), "")
}

func TestP24_6Emit(t *testing.T) {
	w := sample(t)
	w.answers("no values", w.start(emit(), emit(), halt()), " ")
	w.answers("some", w.start(emit(num(1), null()), emit(num(2)), halt()), "1,- 2")
	some := emit(num(1), num(2), num(3))
	for n, want := range []string{"", "1", "1,2", "1,2,3"} {
		some.N = n
		w.answers("the first", w.start(some, halt()), want)
	}
	some = emit(num(1), zero(), beyond())
	some.N = 1
	w.answers("an error in what it is sorted by", w.start(emit(num(1)), some, halt()), "error 31 0 0")
	w.answers("errors of several", w.start(emit(zero()), emit(num(1)), emit(beyond()), emit(zero()), halt()), "error 31 0 0")
}

// sorted gives an instruction that answers the first value, sorted by the others.
func sorted(values ...int64) api.Instr {
	x := emit()
	for _, v := range ints(values...) {
		x.E = append(x.E, api.Code{Op: api.OpConst, Val: v})
	}
	x.N = 1
	return x
}

func TestP24_6Sort(t *testing.T) {
	w := sample(t)
	rows := []api.Instr{sorted(1, 5, 1), sorted(2, -9, 2), sorted(3, 4, 1), sorted(4, 5, 0), sorted(5, 4, 1), sorted(6, -9, 3), sorted(7, 5, 1)}
	for _, c := range []struct {
		what string
		desc []bool
		want string
	}{
		{"by nothing", nil, "1 2 3 4 5 6 7"},
		{"by the first", []bool{false}, "2 6 3 5 1 4 7"},
		{"by the first, turned about", []bool{true}, "1 4 7 3 5 2 6"},
		{"by both", []bool{false, false}, "2 6 3 5 4 1 7"},
		{"by both, the second turned about", []bool{false, true}, "6 2 3 5 1 7 4"},
		{"by both, the first turned about", []bool{true, false}, "4 1 7 3 5 2 6"},
		{"by both, turned about", []bool{true, true}, "1 7 4 3 5 6 2"},
		{"by more than there is", []bool{false, true, true, false}, "6 2 3 5 1 7 4"},
	} {
		code := append([]api.Instr{}, rows...)
		w.answers(c.what, w.start(append(code, sorts(c.desc...), halt())...), c.want)
	}
	w.answers("not sorted yet", w.start(append(append([]api.Instr{}, rows[:3]...), halt())...), "1 2 3")
	w.answers("sorted, and more", w.start(sorted(1, 2), sorted(2, 1), sorts(false), sorted(3, 0), halt()), "2 1 3")
	w.answers("sorted twice", w.start(sorted(1, 2), sorted(2, 1), sorts(false), sorted(3, 0), sorts(true), halt()), "1 2 3")
	w.answers("no rows", w.start(sorts(true), halt()), "")
	w.answers("nothing to sort by", w.start(emit(num(2)), emit(num(1)), sorts(false, true), halt()), "2 1")
}

// TestP24_6SortKinds sorts by all kinds in their order.
func TestP24_6SortKinds(t *testing.T) {
	w := sample(t)
	of := func(n int64, v api.Value) api.Instr {
		return api.Instr{Op: api.InEmit, N: 1, E: codes(num(n), api.Code{Op: api.OpConst, Val: v})}
	}
	w.answers("kinds", w.start(
		of(1, api.Value{Kind: api.Text, Text: "b"}), of(2, api.Value{Kind: api.Text, Text: "ab"}), of(3, api.Value{Kind: api.Real, Num: 0x7ff8000000000000}),
		of(4, api.Value{Kind: api.Real, Num: -0x8000000000000000}), of(5, api.Value{Kind: api.Real}), of(6, whole(-1)), of(7, api.Value{Kind: api.Bool, Num: 1}), of(8, api.Value{}),
		sorts(false), halt()), "8 7 6 4 5 3 2 1")
}

// TestP24_6ManyRows sorts more rows than few: those that are alike keep their order.
func TestP24_6ManyRows(t *testing.T) {
	w := sample(t)
	var code []api.Instr
	for n := range int64(400) {
		code = append(code, sorted(n, n%7))
	}
	r := w.start(append(code, sorts(true), halt())...)
	last(r)
	rows := r.Result().Rows
	for i := 1; i < len(rows); i++ {
		a, b := rows[i-1][0].Num, rows[i][0].Num
		if a%7 < b%7 || a%7 == b%7 && a > b {
			t.Fatalf("%d ahead of %d", a, b)
		}
	}
	if len(rows) != 400 {
		t.Errorf("%d rows", len(rows))
	}
}

// TestP24_2Result asks at every step.
func TestP24_2Result(t *testing.T) {
	w := sample(t)
	r := w.startOn("t", emit(num(1)), emit(num(2)), makes(num(8), num(8)), guard(), guard(), apply(), emit(num(3)), emit(beyond()), emit(num(4)), halt())
	for step, want := range []struct {
		rows  string
		count int
	}{{"", 0}, {"1", 0}, {"1 2", 0}, {"1 2", 0}, {"1 2", 0}, {"1 2", 0}, {"1 2", 0}, {"1 2", 1}, {"1 2 3", 1}} {
		if got := r.Result(); rowsText(got) != want.rows || got.Count != want.count {
			t.Errorf("behind %d steps: %v", step, got)
		}
		r.Step()
	}
	for range 3 {
		if got := r.Result(); got.Code != api.ErrOverflow || len(got.Rows) != 0 || got.Count != 0 {
			t.Errorf("beside an error: %v", got)
		}
		r.Step()
	}
}

// TestP24_2ErrPlanFirst has a plan that can't be run, behind an error that counts more.
func TestP24_2ErrPlanFirst(t *testing.T) {
	w := sample(t)
	r := w.start(emit(num(1)), emit(beyond()), jump(7))
	w.goes("up to the error", r, "RRRD")
	w.told("ErrPlan", rowsText(r.Result()), "error 240 0 0")
}

// TestP24_1Done does nothing behind the end.
func TestP24_1Done(t *testing.T) {
	w := sample(t)
	r := w.start(emit(num(1)), halt(), emit(num(2)), lock("t", api.X), halt())
	w.goes("to the end", r, "RD")
	for range 5 {
		w.goes("behind the end", r, "D")
	}
	w.told("the answer", rowsText(r.Result()), "1")
	w.told("locks", len(w.l.Locks()), "0")
	wrong := w.start(emit(num(1)), api.Instr{Op: 77}, emit(num(2)), halt())
	w.goes("to the fault", wrong, "RD")
	for range 3 {
		w.goes("behind it", wrong, "D")
		w.told("the answer", rowsText(wrong.Result()), "error 240 0 0")
	}
}

// TestP24_1Jump goes forth, back, and round.
func TestP24_1Jump(t *testing.T) {
	w := sample(t)
	w.answers("forth and back", w.start(jump(3), emit(num(1)), jump(5), emit(num(2)), jump(1), emit(num(3)), halt()), "2 1 3")
	r := w.start(jump(0), halt())
	w.goes("round", r, "no end")
	if got := r.Step(); got != api.Running {
		t.Errorf("%d", got)
	}
}
