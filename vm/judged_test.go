package vm_test

import (
	"fmt"
	"slices"
	"testing"

	"hasp/api"
	"hasp/plan"
	"hasp/vm"
)

// code makes a code, of which few meet errors.
func (g *maker) code(depth int) api.Code {
	switch n := g.IntN(20); {
	case n < 8:
		return num(g.Int64N(7) - 1)
	case n < 16 || depth == 0:
		return col(pick(g, 0, 0, 1, 1, 2, 3), g.IntN(3))
	case n == 16:
		return pick(g, null(), null(), zero(), beyond(), truth(true), col(9, 9), api.Code{Op: 77})
	}
	return of(pick(g, api.OpAdd, api.OpSub, api.OpDiv, api.OpMod), g.code(depth-1), g.code(depth-1))
}

func (g *maker) codes(n int) []api.Code {
	var list []api.Code
	for range n {
		list = append(list, g.code(1))
	}
	return list
}

// verdict makes a condition.
func (g *maker) verdict() api.Code {
	if g.odds(8) {
		return pick(g, truth(true), truth(false), null(), g.code(1))
	}
	return of(pick(g, api.OpEq, api.OpNe, api.OpLt, api.OpGe, api.OpLe), g.code(1), g.code(1))
}

// instr makes an instruction of a plan of so many; few are wrong.
func (g *maker) instr(n int) api.Instr {
	x := api.Instr{
		Op: api.InLock + g.IntN(12), C: pick(g, 0, 0, 0, 1, 1, 2, 3), To: g.IntN(n),
		Table: pick(g, "t", "t", "u"), Index: g.IntN(3) - 1,
		Mode: pick(g, api.IS, api.S, api.S, api.U, api.X, api.IX), Part: pick(g, 0, api.S, api.S, api.U, api.X),
		LoOut: g.odds(2), HiOut: g.odds(2),
	}
	switch x.Op {
	case api.InOpen:
		x.Lo, x.Hi = g.codes(g.IntN(3)), g.codes(g.IntN(3))
	case api.InTest:
		x.E = codes(g.verdict())
	case api.InEmit:
		x.E = g.codes(g.IntN(4))
		x.N = g.IntN(len(x.E) + 1)
	case api.InPick, api.InMake:
		x.E = g.codes(pick(g, 0, 3, 3, 3, 3, 2))
	case api.InSort:
		x.Desc = []bool{g.odds(2), g.odds(2)}[:g.IntN(3)]
	}
	return x
}

// spoiled changes something of an instruction of a plan.
func (g *maker) spoiled(p api.Plan) api.Plan {
	n := len(p.Code)
	p.Code = slices.Clone(p.Code)
	at := g.IntN(n)
	x, y := &p.Code[at], g.instr(n)
	switch g.IntN(14) {
	case 0:
		x.C = pick(g, -1, 0, 1, 3, 4)
	case 1:
		x.To = pick(g, -1, 0, at, n-1, n)
	case 2:
		x.Mode = pick(g, 0, -1, 7, api.X, api.S)
	case 3:
		x.Part = pick(g, 0, -1, 7, api.X, api.S)
	case 4:
		x.Table = pick(g, "t", "u", "w", "", "systables")
	case 5:
		x.Index = pick(g, -2, -1, 0, 1, 2)
	case 6:
		x.Lo, x.Hi = y.Lo, y.Hi
	case 7:
		x.LoOut, x.HiOut = y.LoOut, y.HiOut
	case 8:
		x.E = g.codes(g.IntN(4))
	case 9:
		x.N = g.IntN(4) - 1
	case 10:
		p.Code = slices.Delete(p.Code, at, at+1)
	case 11:
		p.Code = slices.Insert(p.Code, at, y)
	case 12:
		*x = p.Code[g.IntN(n)]
	case 13:
		p.Table = pick(g, "t", "u", "w", "", "sysindexes")
	}
	return p
}

// made makes a plan: one of a statement, perhaps spoiled, or one of instructions at random.
func (g *maker) made(w *world) api.Plan {
	var p api.Plan
	if g.odds(4) {
		p.Table = pick(g, "t", "t", "u")
		n := 3 + g.IntN(12)
		for range n {
			p.Code = append(p.Code, g.instr(n))
		}
		p.Code = append(p.Code, halt())
	} else {
		x, ok := w.term(g.narrow().text)
		if !ok {
			return api.Plan{Code: []api.Instr{halt()}}
		}
		p, _ = plan.Make(x)
	}
	for range pick(g, 0, 0, 1, 1, 2, 5) {
		if len(p.Code) > 1 {
			p = g.spoiled(p)
		}
	}
	return p
}

// twins are a machine's world, and one in which judges do the same.
type twins struct {
	*maker
	w, v   *world
	most   int
	runs   map[int]*vm.Run // by the transactions
	judges map[int]*judge
	made   map[int]api.Plan
	met    tally
}

func newTwins(t *testing.T, seed uint64, met tally) *twins {
	g := newMaker(seed)
	x := &twins{maker: g, most: 4 + g.IntN(9), runs: map[int]*vm.Run{}, judges: map[int]*judge{}, made: map[int]api.Plan{}, met: met}
	x.w, x.v = empty(t, x.most), empty(t, x.most)
	three := func(d api.Table) api.Table {
		d.Cols = append(d.Cols, api.Column{Name: "c", Type: api.Int, Required: g.odds(6)})
		return d
	}
	tables := []api.Table{three(desc("t", unique("i", 0), index("j", 1, 2))), three(desc("u", index("k", 2)))}
	x.both(func(w *world) {
		txn := w.x.Begin()
		for _, d := range tables {
			w.is("Make", w.x.Make(txn, d))
		}
		w.commit(txn)
	})
	for range g.IntN(8) {
		row, name := ints(g.Int64N(6), g.Int64N(6), g.Int64N(6)), pick(g, "t", "t", "u")
		x.both(func(w *world) {
			txn := w.x.Begin()
			w.x.Apply(txn, name, []api.Change{{Row: row}})
			w.commit(txn)
		})
	}
	return x
}

func (x *twins) both(do func(w *world)) {
	do(x.w)
	do(x.v)
}

// begins starts a plan, in a new transaction or in one whose run is done.
func (x *twins) begins() {
	p := x.maker.made(x.w)
	txn := 0
	for number, j := range x.judges {
		if j.done && x.odds(2) {
			txn = max(txn, number)
		}
	}
	if txn == 0 {
		txn = x.w.x.Begin()
		x.v.x.Begin()
	}
	x.made[txn] = p
	x.runs[txn] = x.w.m.Start(txn, p)
	x.judges[txn] = &judge{w: x.v, most: x.most, txn: txn, plan: p, guarded: map[int]bool{}}
}

// ends ends a transaction.
func (x *twins) ends(txn int) {
	keep := x.odds(2)
	x.both(func(w *world) {
		if keep {
			w.x.Commit(txn)
		} else {
			w.x.Rollback(txn)
		}
		w.l.Drop(txn)
	})
	delete(x.runs, txn)
	delete(x.judges, txn)
}

// meddles does something from without.
func (x *twins) meddles() {
	change := api.Change{Id: x.IntN(5), Row: ints(x.Int64N(6), x.Int64N(6), x.Int64N(6))}
	if change.Id > 0 && x.odds(3) {
		change.Del, change.Row = true, nil
	}
	name, kind := pick(x.maker, "t", "t", "u"), x.IntN(40)
	x.both(func(w *world) {
		txn := w.x.Begin()
		switch kind {
		case 0:
			w.x.Drop(txn, name)
		case 1:
			w.x.DropIndex(txn, "i")
		case 2:
			w.x.AddIndex(txn, name, index("n", 1))
		default:
			w.x.Apply(txn, name, []api.Change{change})
		}
		w.commit(txn)
	})
}

// steps lets a run and its judge do a step, and holds what comes of it.
func (x *twins) steps(txn int) {
	x.w.Helper()
	r, j := x.runs[txn], x.judges[txn]
	place := j.place
	got, want := r.Step(), j.step()
	what := fmt.Sprintf("at %d of %+v", place, x.made[txn])
	if got != want {
		x.w.Fatalf("%s: %d, not %d", what, got, want)
	}
	if a, b := fmt.Sprint(r.Result()), fmt.Sprint(j.result()); a != b {
		x.w.Fatalf("%s: %s, not %s", what, a, b)
	}
	x.alike(what)
	if place >= 0 && place < len(j.plan.Code) {
		kind := fmt.Sprint(j.plan.Code[place].Op)
		switch {
		case want == api.Blocked:
			kind += " waits"
		case j.wrong:
			kind += " is wrong"
		}
		x.met[kind]++
	}
	if want == api.Done && !j.wrong {
		x.met[fmt.Sprint("code ", int(j.code))]++
	}
}

// alike holds that both worlds are alike.
func (x *twins) alike(what string) {
	x.w.Helper()
	if a, b := x.w.l.Locks(), x.v.l.Locks(); !slices.Equal(a, b) {
		x.w.Fatalf("%s: locks %v, not %v", what, a, b)
	}
	if a, b := x.w.l.Edges(), x.v.l.Edges(); !slices.Equal(a, b) {
		x.w.Fatalf("%s: edges %v, not %v", what, a, b)
	}
	for _, d := range x.w.s.Tables() {
		if a, b := x.w.table(d.Name), x.v.table(d.Name); a != b {
			x.w.Fatalf("%s: %s has %s, not %s", what, d.Name, a, b)
		}
	}
	for _, txn := range x.w.x.Open() {
		if a, b := x.w.x.Mark(txn), x.v.x.Mark(txn); a != b {
			x.w.Fatalf("%s: %d has done %d, not %d", what, txn, a, b)
		}
	}
}

// TestP24_1Judged runs plans of all kinds, right and wrong ones, covered or not, some at once, and holds every step against a judge by the chapter's words.
func TestP24_1Judged(t *testing.T) {
	t.Parallel()
	met := tally{}
	for seed := range uint64(1000) {
		x := newTwins(t, seed, met)
		for range 150 {
			var open []int
			for txn := range x.runs {
				open = append(open, txn)
			}
			slices.Sort(open)
			switch n := x.IntN(100); {
			case len(open) == 0 || n < 5 && len(open) < 4:
				x.begins()
			case n < 8:
				x.ends(pick(x.maker, open...))
			case n < 11:
				x.meddles()
				x.alike("from without")
			default:
				txn := pick(x.maker, open...)
				x.steps(txn)
				if x.judges[txn].done && x.odds(3) {
					x.ends(txn)
				}
			}
		}
	}
	for op := api.InLock; op <= api.InHalt; op++ {
		met.meets(t, 200, fmt.Sprint(op))
	}
	met.meets(t, 10, "1 waits", "3 waits", "9 waits", "10 waits")
	met.meets(t, 10, "1 is wrong", "2 is wrong", "3 is wrong", "4 is wrong", "5 is wrong", "6 is wrong", "7 is wrong", "9 is wrong", "10 is wrong")
	met.meets(t, 10, "code 2", "code 30", "code 31", "code 32", "code 61", "code 161", "code 190", "code 191")
}
