package cover_test

import (
	"math"
	"slices"
	"testing"

	"hasp/api"
	"hasp/cover"
)

// query reads t along its index 0.
func query() api.Plan {
	return api.Plan{Code: []api.Instr{
		{Op: api.InLock, Table: "t", Mode: api.IS},
		{Op: api.InOpen, Table: "t"},
		{Op: api.InNext, To: 6, Mode: api.S, Part: api.S},
		{Op: api.InTest, To: 2, E: make([]api.Code, 1)},
		{Op: api.InEmit, E: make([]api.Code, 3), N: 2},
		{Op: api.InJump, To: 2},
		{Op: api.InSort},
		{Op: api.InHalt},
	}}
}

// change changes rows of t, which it finds along its index 0.
func change() api.Plan {
	return api.Plan{Table: "t", Code: []api.Instr{
		{Op: api.InLock, Table: "t", Mode: api.IX},
		{Op: api.InOpen, Table: "t"},
		{Op: api.InNext, To: 5, Mode: api.S, Part: api.U},
		{Op: api.InPick},
		{Op: api.InJump, To: 2},
		{Op: api.InGuard},
		{Op: api.InApply},
		{Op: api.InHalt},
	}}
}

// insertion adds a row to t.
func insertion() api.Plan {
	return api.Plan{Table: "t", Code: []api.Instr{
		{Op: api.InLock, Table: "t", Mode: api.IX},
		{Op: api.InMake, E: make([]api.Code, 2)},
		{Op: api.InGuard},
		{Op: api.InApply},
		{Op: api.InHalt},
	}}
}

// join reads t and u by their rows, u in t.
func join() api.Plan {
	return api.Plan{Code: []api.Instr{
		{Op: api.InLock, Table: "t", Mode: api.S},
		{Op: api.InLock, Table: "u", Mode: api.S},
		{Op: api.InOpen, C: 0, Table: "t", Index: -1},
		{Op: api.InNext, C: 0, To: 8},
		{Op: api.InOpen, C: 3, Table: "u", Index: -1},
		{Op: api.InNext, C: 3, To: 3},
		{Op: api.InEmit},
		{Op: api.InJump, To: 5},
		{Op: api.InHalt},
	}}
}

// with gives a plan in which something is another way.
func with(p api.Plan, f func(p *api.Plan)) api.Plan {
	f(&p)
	return p
}

// at gives a plan in which one instruction is another way.
func at(p api.Plan, place int, f func(x *api.Instr)) api.Plan {
	f(&p.Code[place])
	return p
}

// among gives a plan with instructions put in at a place; nothing that jumps is changed.
func among(p api.Plan, place int, list ...api.Instr) api.Plan {
	p.Code = slices.Insert(p.Code, place, list...)
	return p
}

func without(p api.Plan, place int) api.Plan {
	p.Code = slices.Delete(p.Code, place, place+1)
	return p
}

func check(t *testing.T, what string, p api.Plan, want api.Errno) {
	t.Helper()
	if got := cover.Check(p); got != want {
		t.Errorf("%s: %d, not %d", what, got, want)
	}
}

func TestP22_1Right(t *testing.T) {
	check(t, "a query", query(), api.OK)
	check(t, "a change", change(), api.OK)
	check(t, "an insertion", insertion(), api.OK)
	check(t, "a join", join(), api.OK)
	check(t, "a halt", api.Plan{Code: []api.Instr{{Op: api.InHalt}}}, api.OK)
}

func TestP22_1Example(t *testing.T) {
	code := func(mode, index, keys, part int) api.Plan {
		return api.Plan{Code: []api.Instr{
			{Op: api.InLock, Table: "t", Mode: mode},
			{Op: api.InOpen, Table: "t", Index: index},
			{Op: api.InNext, To: 4, Mode: keys, Part: part},
			{Op: api.InJump, To: 2},
			{Op: api.InHalt},
		}}
	}
	check(t, "along an index", code(api.IS, 0, api.S, api.S), api.OK)
	check(t, "by the rows", code(api.IS, -1, api.S, api.S), api.ErrPlan)
	check(t, "by the rows, in S", code(api.S, -1, 0, 0), api.OK)
}

// TestP22_1Size goes through the numbers of instructions, and what stands last.
func TestP22_1Size(t *testing.T) {
	check(t, "no instruction", api.Plan{}, api.ErrPlan)
	check(t, "no instruction but a table", api.Plan{Table: "t"}, api.ErrPlan)
	for _, n := range []int{1, 2, api.MaxCode - 1, api.MaxCode, api.MaxCode + 1, 2 * api.MaxCode} {
		want := api.OK
		if n > api.MaxCode {
			want = api.ErrPlan
		}
		p := api.Plan{Code: slices.Repeat([]api.Instr{{Op: api.InHalt}}, n)}
		check(t, "halts", p, want)
		p.Code[n-1] = api.Instr{Op: api.InSort}
		check(t, "halts, and a sort at the end", p, api.ErrPlan)
	}
	check(t, "a halt amid", among(query(), 4, api.Instr{Op: api.InHalt}), api.OK)
	check(t, "no halt at the end", without(query(), 7), api.ErrPlan)
	for op := api.InLock; op < api.InHalt; op++ {
		check(t, "one at the end that is no halt", at(query(), 7, func(x *api.Instr) { x.Op = op }), api.ErrPlan)
	}
}

func TestP22_1Operators(t *testing.T) {
	for _, op := range []int{math.MinInt, -1, 0, 13, 14, math.MaxInt} {
		check(t, "no operator", at(query(), 4, func(x *api.Instr) { x.Op = op }), api.ErrPlan)
		check(t, "no operator at the end", at(query(), 7, func(x *api.Instr) { x.Op = op }), api.ErrPlan)
	}
}

// TestP22_1Cursors goes through the numbers of cursors: of opens, nexts and tests alone are they looked at.
func TestP22_1Cursors(t *testing.T) {
	for _, c := range []int{math.MinInt, -1, 0, 1, 2, 3, 4, math.MaxInt} {
		want := api.ErrPlan
		if c >= 0 && c < api.MaxFrom {
			want = api.OK
		}
		p := query()
		p.Code[1].C, p.Code[2].C = c, c
		check(t, "an open and a next", p, want)
		check(t, "a test", at(query(), 3, func(x *api.Instr) { x.C = c }), want)
		check(t, "an open more", among(query(), 7, api.Instr{Op: api.InOpen, C: c, Table: "t"}), want)
		for _, place := range []int{0, 4, 5, 6, 7} {
			check(t, "another one", at(query(), place, func(x *api.Instr) { x.C = c }), api.OK)
		}
	}
}

// TestP22_1Places goes through the places where it goes on: of nexts, tests and jumps alone are they looked at.
func TestP22_1Places(t *testing.T) {
	for _, to := range []int{math.MinInt, -1, 0, 1, 7, 8, 9, math.MaxInt} {
		want := api.ErrPlan
		if to >= 0 && to < 8 {
			want = api.OK
		}
		for place, x := range query().Code {
			must := api.OK
			if x.Op == api.InNext || x.Op == api.InTest || x.Op == api.InJump {
				must = want
			}
			check(t, "a place", at(query(), place, func(x *api.Instr) { x.To = to }), must)
		}
	}
}

// TestP22_1Expressions goes through how many expressions an instruction has: of tests alone are they counted.
func TestP22_1Expressions(t *testing.T) {
	for n := range 4 {
		for place, x := range query().Code {
			want := api.OK
			if x.Op == api.InTest && n != 1 {
				want = api.ErrPlan
			}
			check(t, "expressions", at(query(), place, func(x *api.Instr) { x.E = make([]api.Code, n) }), want)
		}
	}
}

// TestP22_1Modes goes through modes and parts of all instructions: those that aren't heeded have to be right, too.
func TestP22_1Modes(t *testing.T) {
	for _, mode := range []int{math.MinInt, -1, 0, api.IS, api.IX, api.S, api.SIX, api.U, api.X, 7, math.MaxInt} {
		for _, p := range []func() api.Plan{query, change, insertion, join} {
			for place, x := range p().Code {
				if x.Op != api.InLock && x.Op != api.InNext {
					want := api.OK
					if mode < 0 || mode > api.X {
						want = api.ErrPlan
					}
					check(t, "a mode", at(p(), place, func(x *api.Instr) { x.Mode = mode }), want)
					check(t, "a part", at(p(), place, func(x *api.Instr) { x.Part = mode }), want)
				}
			}
		}
		want := api.ErrPlan
		if mode >= api.IS && mode <= api.X {
			want = api.OK
		}
		check(t, "a lock of another table", among(query(), 0, api.Instr{Op: api.InLock, Table: "z", Mode: mode}), want)
		if mode == 0 {
			want = api.OK
		}
		check(t, "a lock's part", at(query(), 0, func(x *api.Instr) { x.Part = mode }), want)
		check(t, "a row's lock, the table being in S", at(join(), 3, func(x *api.Instr) { x.Part = mode }), want)
		check(t, "a key's lock, there being no keys", at(join(), 3, func(x *api.Instr) { x.Mode = mode }), want)
	}
}

// TestP22_1LocksFirst moves a lock behind other instructions.
func TestP22_1LocksFirst(t *testing.T) {
	lock := api.Instr{Op: api.InLock, Table: "z", Mode: api.IS}
	for place := range query().Code {
		want := api.ErrPlan
		if place < 2 {
			want = api.OK
		}
		p := among(query(), place, lock)
		for i := range p.Code {
			p.Code[i].To = 0
		}
		check(t, "a lock", p, want)
	}
	check(t, "locks alone", api.Plan{Code: []api.Instr{lock, lock, {Op: api.InHalt}}}, api.OK)
	check(t, "a lock at the end", api.Plan{Code: []api.Instr{lock, lock}}, api.ErrPlan)
	check(t, "a lock behind a halt", api.Plan{Code: []api.Instr{{Op: api.InHalt}, lock, {Op: api.InHalt}}}, api.ErrPlan)
}

// covering tells which modes are as strong as one.
func covering(mode int) []int {
	switch mode {
	case api.IS:
		return []int{api.IS, api.IX, api.S, api.SIX, api.U, api.X}
	case api.IX:
		return []int{api.IX, api.SIX, api.X}
	case api.S:
		return []int{api.S, api.SIX, api.U, api.X}
	case api.U:
		return []int{api.U, api.X}
	}
	return nil
}

// needs goes through all modes of something, of which those alone are right that cover one.
func needs(t *testing.T, what string, least int, p func(mode int) api.Plan) {
	t.Helper()
	for mode := api.IS; mode <= api.X; mode++ {
		want := api.ErrPlan
		if slices.Contains(covering(least), mode) {
			want = api.OK
		}
		check(t, what, p(mode), want)
	}
}

func TestP22_1TablesModes(t *testing.T) {
	lockIn := func(p func() api.Plan, place int) func(int) api.Plan {
		return func(mode int) api.Plan { return at(p(), place, func(x *api.Instr) { x.Mode = mode }) }
	}
	needs(t, "a table read along an index", api.IS, lockIn(query, 0))
	needs(t, "a table read by its rows", api.S, lockIn(join, 0))
	needs(t, "another table read by its rows", api.S, lockIn(join, 1))
	needs(t, "a table changed", api.IX, lockIn(change, 0))
	needs(t, "a table with new rows", api.IX, lockIn(insertion, 0))
	check(t, "a table without a lock", at(query(), 0, func(x *api.Instr) { x.Table = "z" }), api.ErrPlan)
	check(t, "a changed table without a lock", at(insertion(), 0, func(x *api.Instr) { x.Table = "z" }), api.ErrPlan)
	check(t, "a table read by its rows without a lock", at(join(), 1, func(x *api.Instr) { x.Table = "t" }), api.ErrPlan)
}

// TestP22_1Joined has several locks of one table: their modes count together.
func TestP22_1Joined(t *testing.T) {
	byRows := func(first, second int) api.Plan {
		p := change()
		p.Code[0].Mode, p.Code[1].Index = first, -1
		for i := range p.Code {
			p.Code[i].To++
		}
		return among(p, 1, api.Instr{Op: api.InLock, Table: "t", Mode: second})
	}
	check(t, "S and IX", byRows(api.S, api.IX), api.OK)
	check(t, "IX and S", byRows(api.IX, api.S), api.OK)
	check(t, "IX and U", byRows(api.IX, api.U), api.OK)
	check(t, "S and S", byRows(api.S, api.S), api.ErrPlan)
	check(t, "IX and IS", byRows(api.IX, api.IS), api.ErrPlan)
	check(t, "S and U", byRows(api.S, api.U), api.ErrPlan)
	check(t, "IS and SIX", byRows(api.IS, api.SIX), api.OK)
	check(t, "S of t and IX of another one", with(byRows(api.S, api.IX), func(p *api.Plan) { p.Code[1].Table = "z" }), api.ErrPlan)
}

// TestP22_1Opens has several opens of one cursor, and nexts without one.
func TestP22_1Opens(t *testing.T) {
	again := func(x api.Instr) api.Plan {
		p := among(query(), 7, x)
		return among(p, 0, api.Instr{Op: api.InLock, Table: "u", Mode: api.X})
	}
	check(t, "twice alike", again(api.Instr{Op: api.InOpen, Table: "t", Lo: make([]api.Code, 1), HiOut: true}), api.OK)
	check(t, "of another table", again(api.Instr{Op: api.InOpen, Table: "u"}), api.ErrPlan)
	check(t, "of another index", again(api.Instr{Op: api.InOpen, Table: "t", Index: 1}), api.ErrPlan)
	check(t, "another cursor of another table", again(api.Instr{Op: api.InOpen, C: 1, Table: "u"}), api.OK)
	check(t, "another cursor by the rows", again(api.Instr{Op: api.InOpen, C: 1, Table: "u", Index: -1}), api.OK)
	check(t, "a cursor by the rows of a table in IS, that goes nowhere", again(api.Instr{Op: api.InOpen, C: 1, Table: "t", Index: -1}), api.ErrPlan)
	check(t, "a cursor of a table that isn't locked, that goes nowhere", again(api.Instr{Op: api.InOpen, C: 1, Table: "v"}), api.ErrPlan)
	check(t, "a next more", again(api.Instr{Op: api.InNext, Mode: api.S, Part: api.S}), api.OK)
	check(t, "a next that isn't open", again(api.Instr{Op: api.InNext, C: 1, Mode: api.S, Part: api.S}), api.ErrPlan)
	check(t, "a test that isn't open", again(api.Instr{Op: api.InTest, C: 1, E: make([]api.Code, 1)}), api.OK)
	check(t, "no open", without(query(), 1), api.ErrPlan)
	for _, index := range []int{math.MinInt, -2, 0, 1, 7, 8, math.MaxInt} {
		want := api.OK
		if index < 0 {
			want = api.ErrPlan
		}
		check(t, "an index", at(query(), 1, func(x *api.Instr) { x.Index = index }), want)
		check(t, "an index, the table in X", with(query(), func(p *api.Plan) { p.Code[0].Mode, p.Code[1].Index = api.X, index }), want)
	}
}

// TestP22_1Nexts goes through how keys and rows are locked, where an index is gone through.
func TestP22_1Nexts(t *testing.T) {
	needs(t, "keys", api.S, func(mode int) api.Plan { return at(query(), 2, func(x *api.Instr) { x.Mode = mode }) })
	needs(t, "rows", api.S, func(mode int) api.Plan { return at(query(), 2, func(x *api.Instr) { x.Part = mode }) })
	needs(t, "rows to be picked", api.U, func(mode int) api.Plan { return at(change(), 2, func(x *api.Instr) { x.Part = mode }) })
	needs(t, "keys of rows to be picked", api.S, func(mode int) api.Plan { return at(change(), 2, func(x *api.Instr) { x.Mode = mode }) })
	check(t, "keys not locked", at(query(), 2, func(x *api.Instr) { x.Mode = 0 }), api.ErrPlan)
	check(t, "rows not locked", at(query(), 2, func(x *api.Instr) { x.Part = 0 }), api.ErrPlan)
	check(t, "keys not locked, the table in X", with(query(), func(p *api.Plan) { p.Code[0].Mode, p.Code[2].Mode = api.X, 0 }), api.ErrPlan)
	for _, spoil := range []func(x *api.Instr){func(x *api.Instr) { x.Mode = api.IX }, func(x *api.Instr) { x.Part = 0 }} {
		more := api.Instr{Op: api.InNext, Mode: api.S, Part: api.S}
		check(t, "two nexts", among(query(), 6, more), api.OK)
		spoil(&more)
		check(t, "two nexts, the second one wrong", among(query(), 6, more), api.ErrPlan)
	}
	needs(t, "rows to be picked by their numbers", api.U, func(mode int) api.Plan {
		return with(change(), func(p *api.Plan) {
			p.Code[0].Mode, p.Code[1].Index, p.Code[2].Mode, p.Code[2].Part = api.SIX, -1, 0, mode
		})
	})
	check(t, "rows to be picked, not locked", with(change(), func(p *api.Plan) {
		p.Code[0].Mode, p.Code[1].Index, p.Code[2].Part = api.X, -1, 0
	}), api.ErrPlan)
	check(t, "two nexts of rows to be picked, the second one in S", among(change(), 4, api.Instr{Op: api.InNext, Mode: api.S, Part: api.S}), api.ErrPlan)
	check(t, "rows read beside those to be picked, in S", among(change(), 4, api.Instr{Op: api.InOpen, C: 1, Table: "t"}, api.Instr{Op: api.InNext, C: 1, Mode: api.S, Part: api.S}), api.OK)
}

// TestP22_1NoTable has what changes in a plan that changes no table.
func TestP22_1NoTable(t *testing.T) {
	check(t, "a change", with(change(), func(p *api.Plan) { p.Table = "" }), api.ErrPlan)
	check(t, "an insertion", with(insertion(), func(p *api.Plan) { p.Table = "" }), api.ErrPlan)
	for _, op := range []int{api.InPick, api.InMake, api.InGuard, api.InApply} {
		p := at(query(), 2, func(x *api.Instr) { x.Part = api.X })
		check(t, "a query with it", among(p, 6, api.Instr{Op: op}), api.ErrPlan)
		check(t, "it behind a halt", among(p, 8, api.Instr{Op: op}, api.Instr{Op: api.InHalt}), api.ErrPlan)
	}
}

// TestP22_1Guard has no guard, several, and picks and rows made behind one.
func TestP22_1Guard(t *testing.T) {
	guard, apply := api.Instr{Op: api.InGuard}, api.Instr{Op: api.InApply}
	check(t, "no guard", without(insertion(), 2), api.ErrPlan)
	check(t, "no apply", without(insertion(), 3), api.ErrPlan)
	check(t, "neither", without(without(insertion(), 3), 2), api.ErrPlan)
	check(t, "a query that changes a table", with(query(), func(p *api.Plan) { p.Table, p.Code[0].Mode = "t", api.X }), api.ErrPlan)
	check(t, "two guards", among(insertion(), 2, guard), api.ErrPlan)
	check(t, "two applies", among(insertion(), 3, apply), api.ErrPlan)
	check(t, "both twice", among(insertion(), 2, guard, apply), api.ErrPlan)
	check(t, "apply ahead of guard", with(insertion(), func(p *api.Plan) { p.Code[2], p.Code[3] = apply, guard }), api.ErrPlan)
	check(t, "a sort between", among(insertion(), 3, api.Instr{Op: api.InSort}), api.ErrPlan)
	check(t, "a sort behind", among(insertion(), 4, api.Instr{Op: api.InSort}), api.OK)
	for _, op := range []int{api.InPick, api.InMake} {
		check(t, "between", among(change(), 6, api.Instr{Op: op}), api.ErrPlan)
		check(t, "behind", among(change(), 7, api.Instr{Op: op}), api.ErrPlan)
		check(t, "behind a halt", among(change(), 8, api.Instr{Op: op}, api.Instr{Op: api.InHalt}), api.ErrPlan)
		check(t, "right ahead", among(change(), 5, api.Instr{Op: op}), api.OK)
	}
	check(t, "nothing made", without(insertion(), 1), api.OK)
	check(t, "a next behind", among(change(), 7, api.Instr{Op: api.InNext, Mode: api.S, Part: api.U}), api.OK)
}

// TestP22_1Pick has picks where the cursor 0 isn't open on the table that is changed.
func TestP22_1Pick(t *testing.T) {
	check(t, "the cursor 1", with(change(), func(p *api.Plan) { p.Code[1].C, p.Code[2].C = 1, 1 }), api.ErrPlan)
	check(t, "no cursor", without(without(change(), 1), 1), api.ErrPlan)
	check(t, "another table", with(among(change(), 0, api.Instr{Op: api.InLock, Table: "u", Mode: api.X}), func(p *api.Plan) { p.Table = "u" }), api.ErrPlan)
	check(t, "a cursor that goes nowhere", without(change(), 2), api.OK)
	other := among(insertion(), 1, api.Instr{Op: api.InLock, Table: "u", Mode: api.S}, api.Instr{Op: api.InOpen, Table: "u", Index: -1}, api.Instr{Op: api.InNext})
	check(t, "rows made of another table's", other, api.OK)
	check(t, "a pick among them", among(other, 4, api.Instr{Op: api.InPick}), api.ErrPlan)
}
