package cover_test

import (
	"fmt"
	"math/rand/v2"
	"slices"
	"testing"

	"hasp/api"
	"hasp/cover"
)

// judged judges by the chapter's words, sentence by sentence, over the whole plan each time.
func judged(p api.Plan) bool {
	for _, sentence := range []func(api.Plan) bool{counted, wellMade, locksAhead, readsBehindLocks, changesBehindLocks} {
		if !sentence(p) {
			return false
		}
	}
	return true
}

func counted(p api.Plan) bool {
	return len(p.Code) > 0 && len(p.Code) <= 4096 && p.Code[len(p.Code)-1].Op == api.InHalt
}

func wellMade(p api.Plan) bool {
	for _, x := range p.Code {
		cursor := x.Op == api.InOpen || x.Op == api.InNext || x.Op == api.InTest
		goesOn := x.Op == api.InNext || x.Op == api.InTest || x.Op == api.InJump
		switch {
		case x.Op < 1, x.Op > 12:
			return false
		case cursor && (x.C < 0 || x.C > 3):
			return false
		case goesOn && (x.To < 0 || x.To >= len(p.Code)):
			return false
		case x.Op == api.InTest && len(x.E) != 1:
			return false
		case x.Mode < 0, x.Mode > 6, x.Part < 0, x.Part > 6:
			return false
		case x.Op == api.InLock && x.Mode == 0:
			return false
		}
	}
	return true
}

func locksAhead(p api.Plan) bool {
	for i := 1; i < len(p.Code); i++ {
		if p.Code[i].Op == api.InLock && p.Code[i-1].Op != api.InLock {
			return false
		}
	}
	return true
}

// strong tells whether locks of these modes are together as strong as one: each mode is the least of those that it takes, and S with IX is SIX, IX with U is X.
func strong(least int, held ...int) bool {
	if slices.Contains(held, api.IX) && slices.Contains(held, api.S) {
		held = append(slices.Clone(held), api.SIX)
	}
	if (slices.Contains(held, api.IX) || slices.Contains(held, api.SIX)) && slices.Contains(held, api.U) {
		held = append(slices.Clone(held), api.X)
	}
	return slices.ContainsFunc(held, func(mode int) bool { return slices.Contains(covering(least), mode) })
}

func locksOf(p api.Plan, table string) []int {
	var held []int
	for _, x := range p.Code {
		if x.Op == api.InLock && x.Table == table {
			held = append(held, x.Mode)
		}
	}
	return held
}

func readsBehindLocks(p api.Plan) bool {
	for _, a := range p.Code {
		if a.Op == api.InNext && !slices.ContainsFunc(p.Code, func(b api.Instr) bool { return b.Op == api.InOpen && b.C == a.C }) {
			return false
		}
		if a.Op != api.InOpen {
			continue
		}
		if a.Index < -1 || a.Index == -1 && !strong(api.S, locksOf(p, a.Table)...) || a.Index >= 0 && !strong(api.IS, locksOf(p, a.Table)...) {
			return false
		}
		for _, b := range p.Code {
			if b.Op == api.InOpen && b.C == a.C && (b.Table != a.Table || b.Index != a.Index) {
				return false
			}
			if b.Op == api.InNext && b.C == a.C && a.Index >= 0 && !(strong(api.S, b.Mode) && strong(api.S, b.Part)) {
				return false
			}
		}
	}
	return true
}

func changesBehindLocks(p api.Plan) bool {
	places := map[int][]int{}
	for i, x := range p.Code {
		places[x.Op] = append(places[x.Op], i)
	}
	picks, makes, guards, applies := places[api.InPick], places[api.InMake], places[api.InGuard], places[api.InApply]
	if p.Table == "" {
		return len(picks) == 0 && len(makes) == 0 && len(guards) == 0 && len(applies) == 0
	}
	if !strong(api.IX, locksOf(p, p.Table)...) || len(guards) != 1 || len(applies) != 1 || applies[0] != guards[0]+1 {
		return false
	}
	for _, i := range slices.Concat(picks, makes) {
		if i > guards[0] {
			return false
		}
	}
	if len(picks) == 0 {
		return true
	}
	open := false
	for _, x := range p.Code {
		if x.Op == api.InOpen && x.C == 0 {
			if x.Table != p.Table {
				return false
			}
			open = true
		}
		if x.Op == api.InNext && x.C == 0 && !strong(api.U, x.Part) {
			return false
		}
	}
	return open
}

// spoil changes something of a plan at random, mostly to what may be right as well.
func spoil(r *rand.Rand, p *api.Plan) {
	place := r.IntN(len(p.Code))
	x := &p.Code[place]
	switch r.IntN(12) {
	case 0:
		x.Op = 1 + r.IntN(13)
	case 1:
		x.C = r.IntN(6) - 1
	case 2:
		x.To = r.IntN(len(p.Code)+2) - 1
	case 3, 4:
		x.Mode = r.IntN(8)
	case 5, 6:
		x.Part = r.IntN(8)
	case 7:
		x.Table = []string{"t", "u", ""}[r.IntN(3)]
	case 8:
		x.Index = r.IntN(4) - 2
	case 9:
		p.Table = []string{"t", "u", ""}[r.IntN(3)]
	case 10:
		p.Code = slices.Delete(p.Code, place, place+1)
	case 11:
		p.Code = slices.Insert(p.Code, place, p.Code[r.IntN(len(p.Code))])
	}
}

// TestP22_1Random holds Check against a judge by the chapter's words, over plans with some things changed.
func TestP22_1Random(t *testing.T) {
	r := rand.New(rand.NewPCG(22, 1))
	right := 0
	for range 50000 {
		p := []func() api.Plan{query, change, insertion, join}[r.IntN(4)]()
		if r.IntN(2) == 0 { // A table in X leaves the other rules alone.
			p.Code = slices.Insert(p.Code, 0, api.Instr{Op: api.InLock, Table: "u", Mode: api.X}, api.Instr{Op: api.InLock, Table: "t", Mode: 1 + r.IntN(6)})
		}
		for n := 1 + r.IntN(3); n > 0 && len(p.Code) > 0; n-- {
			spoil(r, &p)
		}
		before := fmt.Sprintf("%#v", p)
		want := api.ErrPlan
		if judged(p) {
			want = api.OK
			right++
		}
		if got := cover.Check(p); got != want {
			t.Errorf("%+v: %d, not %d", p, got, want)
		}
		if after := fmt.Sprintf("%#v", p); after != before {
			t.Errorf("P22.2: %s has become %s", before, after)
		}
	}
	if right < 10000 || right > 40000 {
		t.Errorf("%d of the plans are right", right)
	}
}

// TestP22_2Memory holds that a plan stays as it is, the spare room of its lists too.
func TestP22_2Memory(t *testing.T) {
	for _, p := range []api.Plan{query(), change(), insertion(), join()} {
		list := append(slices.Clone(p.Code), api.Instr{Op: 77}, api.Instr{Op: 78})
		p.Code = list[: len(p.Code) : len(p.Code)+1]
		before := fmt.Sprintf("%#v", list)
		if code := cover.Check(p); code != api.OK {
			t.Errorf("%+v: %d", p, code)
		}
		if after := fmt.Sprintf("%#v", list); after != before {
			t.Errorf("%s has become %s", before, after)
		}
	}
}
