package vm_test

import (
	"testing"

	"hasp/api"
	"hasp/vm"
)

// changing picks all rows of t, and changes them.
func changing(x api.Instr) []api.Instr {
	return []api.Instr{rowsOf(0, "t"), next(0, 4), x, jump(1), guard(), apply(), halt()}
}

func TestP24_6Pick(t *testing.T) {
	for _, c := range []struct {
		what string
		x    api.Instr
		want string
		rows string
	}{
		{"out", picks(), "", ""},
		{"other rows", picks(of(api.OpAdd, col(0, 0), num(1)), num(7)), "", "1:2,7 2:3,7 3:4,7"},
		{"rows with Null", picks(null(), col(0, 1)), "", "1:-,10 2:-,20 3:-,30"},
		{"too few values", picks(num(1)), "error 61 0 0", "1:1,10 2:2,20 3:3,30"},
		{"too many values", picks(num(1), num(2), num(3)), "error 61 0 0", "1:1,10 2:2,20 3:3,30"},
		{"of another type", picks(truth(true), num(2)), "error 30 0 0", "1:1,10 2:2,20 3:3,30"},
		{"an error", picks(of(api.OpDiv, num(1), of(api.OpSub, col(0, 0), num(2))), num(2)), "error 32 0 0", "1:1,10 2:2,20 3:3,30"},
		{"alike", picks(num(1), num(2)), "error 190 0 0", "1:1,10 2:2,20 3:3,30"},
		{"no operator", picks(api.Code{Op: -1}, num(2)), "error 30 0 0", "1:1,10 2:2,20 3:3,30"},
	} {
		w := sample(t)
		r := w.startOn("t", changing(c.x)...)
		w.answers(c.what, r, c.want)
		w.told(c.what, w.table("t"), c.rows)
		if got := r.Result(); got.Code == api.OK && got.Count != 3 {
			t.Errorf("%s: %v", c.what, got)
		}
	}
}

// TestP24_6PickedTwice picks a row twice, which layer 19 refuses.
func TestP24_6PickedTwice(t *testing.T) {
	w := sample(t)
	w.answers("twice", w.startOn("t", rowsOf(0, "t"), next(0, 9), picks(), picks(), guard(), guard(), guard(), apply(), halt()), "error 2 0 0")
	w.told("twice", w.table("t"), "1:1,10 2:2,20 3:3,30")
}

// TestP24_6PickErrors notes the tuple's error, or that of the values, and picks nothing.
func TestP24_6PickErrors(t *testing.T) {
	w := sample(t)
	body := func(list ...api.Instr) []api.Instr {
		code := append([]api.Instr{rowsOf(0, "t"), next(0, 99)}, list...)
		return append(code, guard(), guard(), apply(), halt())
	}
	w.answers("out, with a tuple's error", w.startOn("t", body(test(2, 99, zero()), picks())...), "error 32 0 0")
	w.answers("with a tuple's error ahead of the values'", w.startOn("t", body(test(2, 99, zero()), picks(beyond(), num(1)))...), "error 32 0 0")
	w.answers("with a tuple's error ahead of what doesn't fit", w.startOn("t", body(test(2, 99, zero()), picks(truth(true), num(1)))...), "error 32 0 0")
	w.answers("two errors", w.startOn("t", body(picks(zero(), num(1)), picks(beyond(), num(1)), picks(col(9, 9), num(1)))...), "error 31 0 0")
	w.answers("made, with a tuple's error", w.startOn("t", body(test(2, 99, zero()), makes(num(1), num(1)))...), "error 32 0 0")
	w.told("nothing has changed", w.table("t"), "1:1,10 2:2,20 3:3,30")
	w.told("no locks", len(w.l.Locks()), "0")
}

func TestP24_6Make(t *testing.T) {
	for _, c := range []struct {
		what string
		list []api.Instr
		want string
		rows string
	}{
		{"one", []api.Instr{makes(num(4), num(5))}, "", "1:1,10 2:2,20 3:3,30 4:4,5"},
		{"two", []api.Instr{makes(null(), num(5)), makes(null(), null())}, "", "1:1,10 2:2,20 3:3,30 4:-,5 5:-,-"},
		{"alike to another", []api.Instr{makes(num(3), num(5))}, "error 190 0 0", ""},
		{"alike", []api.Instr{makes(num(4), num(5)), makes(num(4), num(6))}, "error 190 0 0", ""},
		{"without values", []api.Instr{makes()}, "error 61 0 0", ""},
		{"too many values", []api.Instr{makes(num(4), num(5), num(6))}, "error 61 0 0", ""},
		{"of another type", []api.Instr{makes(num(4), truth(false))}, "error 30 0 0", ""},
		{"an error beside one that counts less", []api.Instr{makes(num(4), zero()), makes(num(3), num(1)), makes(truth(true), num(4))}, "error 30 0 0", ""},
		{"over no row", []api.Instr{makes(col(0, 0), num(1))}, "error 161 0 0", ""},
	} {
		w := sample(t)
		code := append(append([]api.Instr{}, c.list...), guard(), guard(), guard(), apply(), halt())
		r := w.startOn("t", code...)
		w.answers(c.what, r, c.want)
		if c.rows == "" {
			c.rows = "1:1,10 2:2,20 3:3,30"
		} else if got := r.Result().Count; got != len(c.list) {
			t.Errorf("%s: Count %d", c.what, got)
		}
		w.told(c.what, w.table("t"), c.rows)
	}
}

// TestP24_6MakeOverRow makes rows of a cursor's, of another table too.
func TestP24_6MakeOverRow(t *testing.T) {
	w := sample(t)
	r := w.startOn("u", rowsOf(0, "t"), next(0, 4), makes(col(0, 1), col(0, 0)), jump(1), guard(), apply(), halt())
	w.answers("of another table", r, "")
	w.told("u", w.table("u"), "1:1,0 2:2,- 3:3,3 4:10,1 5:20,2 6:30,3")
	w.told("Count", r.Result().Count, "3")
}

// TestP24_6GuardSteps guards a change a step, and goes on behind the last.
func TestP24_6GuardSteps(t *testing.T) {
	w := sample(t)
	w.goes("no change", w.startOn("t", guard(), halt()), "RD")
	w.goes("one", w.startOn("u", makes(null(), null()), guard(), halt()), "RRRD")
	w.goes("three", w.startOn("u", makes(null(), null()), makes(null(), null()), makes(null(), null()), guard(), halt()), "RRRRRRRD")
	w.goes("guarded once", w.startOn("u", makes(null(), null()), guard(), makes(null(), null()), guard(), guard(), halt()), "RRRRRRRD")
	w.goes("with an error", w.startOn("u", makes(null(), null()), emit(zero()), guard(), halt()), "RRRD")
	w.goes("with an error amid", w.startOn("u", makes(null(), null()), guard(), emit(zero()), makes(null(), null()), guard(), halt()), "RRRRRRD")
}

// TestP24_6GuardLocks holds what is asked for, by what is done with a row of the values 2, 20.
func TestP24_6GuardLocks(t *testing.T) {
	for _, c := range []struct {
		what string
		code []api.Instr
		want []string
	}{
		{"out", []api.Instr{picks()}, []string{"r/t/2 X", "k/t/i/2#2 X", "k/t/i/3#3 X", "k/t/j/20#2 X", "k/t/j/30#3 X"}},
		{"the same", []api.Instr{picks(col(0, 0), col(0, 1))}, []string{"r/t/2 X"}},
		{"another b", []api.Instr{picks(col(0, 0), num(5))}, []string{"r/t/2 X", "k/t/j/20#2 X", "k/t/j/30#3 X", "k/t/j/10#1 X", "k/t/j/5#2 X"}},
		{"another a, Null", []api.Instr{picks(null(), col(0, 1))}, []string{"r/t/2 X", "k/t/i/2#2 X", "k/t/i/3#3 X", "k/t/i/1#1 X", "k/t/i/-#2 X"}},
		{"another a, behind all", []api.Instr{picks(num(8), col(0, 1))}, []string{"r/t/2 X", "k/t/i/2#2 X", "k/t/i/3#3 X", "e/t/i X", "k/t/i/8#2 X"}},
		{"another a, one that there is", []api.Instr{picks(num(3), num(20))}, []string{"r/t/2 X", "k/t/i/2#2 X", "k/t/i/3#3 X", "k/t/i/3#2 X"}},
		{"a new row", []api.Instr{makes(num(2), num(21))}, []string{"k/t/i/2#2 X", "k/t/j/30#3 X"}},
		{"a new row behind all", []api.Instr{makes(num(4), num(40))}, []string{"e/t/i X", "e/t/j X"}},
	} {
		w := sample(t)
		code := append([]api.Instr{along(0, "t", 0, codes(num(2)), codes(num(2))), next(0, 99)}, c.code...)
		r := w.startOn("t", append(code, guard(), halt())...)
		w.told(c.what, last(r), "D")
		w.holds(c.what, w.x.Open()[0], c.want...)
		w.told(c.what, w.table("t"), "1:1,10 2:2,20 3:3,30")
	}
}

// TestP24_6GuardLast takes out the last row: there is no entry behind its own.
func TestP24_6GuardLast(t *testing.T) {
	w := sample(t)
	r := w.startOn("t", along(0, "t", 1, codes(num(30)), nil), next(0, 9), picks(), guard(), halt())
	w.told("the last", last(r), "D")
	w.holds("the last", w.x.Open()[0], "r/t/3 X", "k/t/i/3#3 X", "e/t/i X", "k/t/j/30#3 X", "e/t/j X")
	w.told("without indexes", last(w.startOn("u", rowsOf(0, "u"), next(0, 9), picks(), guard(), halt())), "D")
	w.holds("without indexes", w.x.Open()[1], "r/u/1 X")
}

// TestP24_6GuardGone guards a change of a row that has gone meanwhile.
func TestP24_6GuardGone(t *testing.T) {
	w := sample(t)
	r := w.startOn("t", rowsOf(0, "t"), next(0, 9), picks(num(7), num(7)), guard(), apply(), halt())
	r.Step()
	r.Step()
	w.change("t", api.Change{Id: 1, Del: true})
	w.answers("gone", r, "error 2 0 0")
	w.holds("gone", w.x.Open()[0], "r/t/1 X")
}

// TestP24_1BlockedGuard waits for each thing that a change touches, in its order; the guarding is done again, over what there is then.
func TestP24_1BlockedGuard(t *testing.T) {
	things := []string{"r/t/2 X", "k/t/i/2#2 X", "k/t/i/3#3 X", "e/t/i X", "k/t/j/20#2 X", "k/t/j/30#3 X", "k/t/j/10#1 X", "k/t/i/8#2 X", "k/t/j/5#2 X"}
	for place := range things {
		w := sample(t)
		x, _ := w.s.Table("t")
		old, become := ints(2, 20), ints(8, 5)
		res := []string{
			vm.ResRow("t", 2), vm.ResKey("t", "i", x.Key(0, old, 2)), vm.ResKey("t", "i", x.Key(0, ints(3, 30), 3)), vm.ResEnd("t", "i"),
			vm.ResKey("t", "j", x.Key(1, old, 2)), vm.ResKey("t", "j", x.Key(1, ints(3, 30), 3)), vm.ResKey("t", "j", x.Key(1, ints(1, 10), 1)),
			vm.ResKey("t", "i", x.Key(0, become, 2)), vm.ResKey("t", "j", x.Key(1, become, 2)),
		}[place]
		other := w.x.Begin()
		w.l.Ask(other, res, api.S)
		r := w.startOn("t", along(0, "t", 0, codes(num(2)), codes(num(2))), next(0, 99), picks(num(8), num(5)), guard(), apply(), halt())
		w.goes(things[place], r, "RRRB")
		w.goes(things[place], r, "B")
		w.holds(things[place], other+1, append([]string{}, things[:place]...)...)
		w.l.Drop(other)
		w.goes(things[place], r, "RRRD")
		w.holds(things[place], other+1, append([]string{}, things...)...)
		w.told(things[place], w.table("t"), "1:1,10 2:8,5 3:3,30")
	}
}

// TestP24_6Apply makes the changes all at once, and locks the new rows with their entries.
func TestP24_6Apply(t *testing.T) {
	w := sample(t)
	r := w.startOn("t", rowsOf(0, "t"), next(0, 9), picks(), next(0, 9), picks(num(1), num(1)), makes(num(2), num(2)), makes(null(), num(3)), apply(), halt())
	for range 7 {
		r.Step()
		w.told("ahead of it", w.table("t"), "1:1,10 2:2,20 3:3,30")
	}
	w.told("no locks so far", len(w.l.Locks()), "0")
	w.goes("it", r, "RD")
	w.told("behind it", w.table("t"), "2:1,1 3:3,30 4:2,2 5:-,3")
	w.told("Count", r.Result().Count, "4")
	txn := w.x.Open()[0]
	w.holds("new rows", txn, "r/t/4 X", "r/t/5 X", "k/t/i/2#4 X", "k/t/i/-#5 X", "k/t/j/2#4 X", "k/t/j/3#5 X")
	w.told("noted", w.x.Mark(txn), "1")
	w.is("Rollback", w.x.Rollback(txn))
	w.told("rolled back", w.table("t"), "1:1,10 2:2,20 3:3,30")
	if !w.s.Sound() {
		t.Error("not sound")
	}
}

// TestP24_6ApplyNumbers goes on with numbers behind all that were given, rows that went too.
func TestP24_6ApplyNumbers(t *testing.T) {
	w := sample(t)
	w.put("t", ints(4, 4), ints(5, 5))
	w.change("t", api.Change{Id: 5, Del: true})
	r := w.startOn("t", makes(num(7), num(7)), apply(), halt())
	w.goes("a new row", r, "RRD")
	w.holds("a new row", w.x.Open()[0], "r/t/6 X", "k/t/i/7#6 X", "k/t/j/7#6 X")
}

// TestP24_6ApplyWithError changes nothing, and asks for nothing.
func TestP24_6ApplyWithError(t *testing.T) {
	w := sample(t)
	r := w.startOn("t", makes(num(7), num(7)), emit(zero()), apply(), halt())
	w.answers("an error ahead", r, "error 32 0 0")
	alike := w.startOn("t", makes(num(7), num(7)), makes(num(1), num(7)), apply(), halt())
	w.answers("alike", alike, "error 190 0 0")
	w.told("nothing has changed", w.table("t"), "1:1,10 2:2,20 3:3,30")
	w.told("no locks", len(w.l.Locks()), "0")
	for _, txn := range w.x.Open() {
		w.told("nothing noted", w.x.Mark(txn), "0")
	}
	later := w.startOn("t", makes(num(7), num(7)), apply(), emit(zero()), makes(num(8), num(8)), apply(), halt())
	w.answers("an error behind", later, "error 32 0 0")
	w.told("what was applied stays", w.table("t"), "1:1,10 2:2,20 3:3,30 4:7,7")
}

// TestP24_6ApplyNothing applies no changes at all.
func TestP24_6ApplyNothing(t *testing.T) {
	w := sample(t)
	r := w.startOn("t", apply(), halt())
	w.goes("nothing", r, "RD")
	w.told("nothing", r.Result(), "{errno 0 [] 0}")
	w.told("nothing", w.table("t"), "1:1,10 2:2,20 3:3,30")
}

// TestP24_6ApplyShut has a transaction that isn't open.
func TestP24_6ApplyShut(t *testing.T) {
	w := sample(t)
	txn := w.x.Begin()
	r := w.m.Start(txn, api.Plan{Table: "t", Code: []api.Instr{makes(num(7), num(7)), guard(), apply(), halt()}})
	w.commit(txn)
	w.answers("shut", r, "error 250 0 0")
	w.told("shut", w.table("t"), "1:1,10 2:2,20 3:3,30")
}

// TestP24_6Full fills a table of at most five rows.
func TestP24_6Full(t *testing.T) {
	many := func(n int) (list []api.Instr) {
		for i := range n {
			list = append(list, makes(num(int64(4+i)), num(0)))
		}
		return list
	}
	for _, c := range []struct {
		most, out, come int
		want            string
	}{
		{5, 0, 2, ""}, {5, 0, 3, "error 191 0 0"}, {5, 1, 3, ""}, {5, 1, 4, "error 191 0 0"}, {5, 3, 5, ""}, {5, 3, 6, "error 191 0 0"},
		{3, 0, 0, ""}, {2, 0, 0, ""}, {2, 1, 0, ""}, {2, 2, 1, ""}, {2, 1, 1, "error 191 0 0"}, {0, 0, 0, ""}, {0, 3, 0, ""}, {0, 3, 1, "error 191 0 0"},
	} {
		w := sample(t)
		m := vm.New(w.s, w.x, w.l, c.most)
		var list []api.Instr
		for range c.out {
			list = append(list, next(0, 99), picks())
		}
		list = append(append([]api.Instr{rowsOf(0, "t")}, list...), many(c.come)...)
		txn := w.x.Begin()
		r := m.Start(txn, api.Plan{Table: "t", Code: append(list, apply(), halt())})
		w.answers("full", r, c.want)
		mode := w.l.Mode(txn, vm.ResTable("t"))
		if got := r.Result(); got.Code == api.OK && (got.Count != c.out+c.come || mode != 0) || got.Code == api.ErrFull && mode != api.SIX {
			t.Errorf("%+v: %v, the table in %d", c, got, mode)
		}
	}
}

// TestP24_1MostBelow has machines whose tables may have no rows.
func TestP24_1MostBelow(t *testing.T) {
	for _, most := range []int{0, -1, -9223372036854775808} {
		w := sample(t)
		m := vm.New(w.s, w.x, w.l, most)
		for _, c := range [][2]string{{"INSERT INTO t VALUES (7, 7)", "error 191 0 0"}, {"UPDATE t SET b = 7", ""}, {"INSERT INTO t VALUES (1, 7)", "error 190 0 0"}, {"DELETE FROM t WHERE a = 2", ""}} {
			txn := w.x.Begin()
			w.answers(c[0], m.Start(txn, w.plan(c[0])), c[1])
			w.commit(txn)
		}
		w.told("rows", w.table("t"), "1:1,7 3:3,7")
	}
}

// TestP24_6FullGone asks for the table, where others' rows that went could come back, and finds out then.
func TestP24_6FullGone(t *testing.T) {
	for _, back := range []bool{true, false} {
		w := sample(t)
		m := vm.New(w.s, w.x, w.l, 3)
		other, txn := w.x.Begin(), w.x.Begin()
		out := m.Start(other, w.plan("DELETE FROM t WHERE a = 1"))
		w.told("out", last(out), "D")
		r := m.Start(txn, w.plan("INSERT INTO t VALUES (7, 70)"))
		w.told("one more", last(r), "B")
		if wish, ok := w.l.Wish(txn); !ok || wish != (api.Lock{Txn: txn, Res: "t/t", Mode: api.SIX}) {
			t.Errorf("wishes %v", wish)
		}
		w.told("so far", w.table("t"), "2:2,20 3:3,30")
		want, rows := "", "2:2,20 3:3,30 4:7,70"
		if back {
			want, rows = "error 191 0 0", "1:1,10 2:2,20 3:3,30"
			w.is("Rollback", w.x.Rollback(other))
			w.l.Drop(other)
		} else {
			w.commit(other)
		}
		w.answers("one more", r, want)
		w.told("rows", w.table("t"), rows)
	}
}

// TestP24_1BlockedApply waits for a table that would be too full, and still does when it wouldn't be any more: its row comes once, behind that.
func TestP24_1BlockedApply(t *testing.T) {
	w := sample(t)
	m := vm.New(w.s, w.x, w.l, 4)
	one, two, txn := w.x.Begin(), w.x.Begin(), w.x.Begin()
	w.told("a new row", last(m.Start(one, w.plan("INSERT INTO t VALUES (7, 70)"))), "D")
	w.told("another row", last(m.Start(two, w.plan("UPDATE t SET b = b WHERE a = 1"))), "D")
	r := m.Start(txn, api.Plan{Table: "t", Code: []api.Instr{lock("t", api.IX), makes(num(8), num(80)), apply(), halt()}})
	w.goes("one more", r, "RRB")
	w.is("Rollback", w.x.Rollback(one))
	w.l.Drop(one)
	for range 3 {
		w.goes("there is room, but it waits", r, "B")
		w.told("there is room, but it waits", w.table("t"), "1:1,10 2:2,20 3:3,30")
	}
	w.commit(two)
	w.goes("one more", r, "RD")
	w.told("one more", w.table("t"), "1:1,10 2:2,20 3:3,30 5:8,80")
	w.holds("one more", txn, "t/t SIX", "r/t/5 X", "k/t/i/8#5 X", "k/t/j/80#5 X")
}

// TestP24_6FullOwn doesn't wait for rows that the transaction itself took out, nor for those of other tables.
func TestP24_6FullOwn(t *testing.T) {
	w := sample(t)
	m := vm.New(w.s, w.x, w.l, 3)
	other, txn := w.x.Begin(), w.x.Begin()
	w.told("out of u", last(m.Start(other, w.plan("DELETE FROM u"))), "D")
	w.told("out", last(m.Start(txn, w.plan("DELETE FROM t WHERE a = 1"))), "D")
	w.answers("one more", m.Start(txn, w.plan("INSERT INTO t VALUES (7, 7)")), "")
	w.told("rows", w.table("t"), "2:2,20 3:3,30 4:7,7")
	if got := w.l.Mode(txn, vm.ResTable("t")); got != api.IX {
		t.Errorf("the table is locked in %d", got)
	}
}

// TestP24_3Partly holds that a statement changes all its rows, or none: the last one meets an error.
func TestP24_3Partly(t *testing.T) {
	for s, want := range map[string]string{
		"UPDATE t SET a = 6 / (a - 3)":                         "error 32 0 0",
		"UPDATE t SET a = a - 3":                               "",
		"UPDATE t SET a = a / 3":                               "error 190 0 0",
		"INSERT INTO t VALUES (7, 7), (8, 1 / 0)":              "error 32 0 0",
		"INSERT INTO t VALUES (7, 7), (3, 8)":                  "error 190 0 0",
		"DELETE FROM t WHERE 6 / (a - 3) < 9":                  "error 32 0 0",
		"UPDATE t SET b = 9223372036854775807 + a WHERE a < 3": "error 31 0 0",
	} {
		w := sample(t)
		before := w.table("t")
		r := w.m.Start(w.x.Begin(), w.plan(s))
		w.answers(s, r, want)
		if want != "" {
			w.told(s, w.table("t"), before)
			w.told(s, w.x.Mark(w.x.Open()[0]), "0")
		}
	}
}
