package plan_test

import (
	"fmt"
	"math"
	"testing"

	"hasp/api"
	"hasp/plan"
)

// oddInt makes numbers of which many are out of all bounds.
func (g *maker) oddInt() int {
	return pick(g, math.MinInt, -2, -1, 0, 0, 1, 1, 2, 3, 4, 9, math.MaxInt)
}

// oddCode makes a code that no statement has.
func (g *maker) oddCode(depth int) api.Code {
	c := api.Code{Op: g.IntN(24) - 1, Type: g.oddInt(), Tab: g.oddInt(), Col: g.oddInt(), Val: api.Value{Kind: g.oddInt(), Num: g.Int64()}}
	if g.odds(3) {
		c = api.Code{Op: api.OpColumn, Tab: g.oddInt(), Col: g.oddInt()}
	}
	if depth > 0 {
		c.Args = g.oddCodes(depth - 1)
	}
	return c
}

func (g *maker) oddCodes(depth int) []api.Code {
	var list []api.Code
	for range g.IntN(4) {
		list = append(list, g.oddCode(depth))
	}
	return list
}

func (g *maker) oddTables() []api.Table {
	var list []api.Table
	for range g.IntN(6) {
		t := api.Table{Name: pick(g, "t", "u", "")}
		for range g.IntN(3) {
			x := api.Index{Unique: g.odds(2)}
			for range g.IntN(4) {
				x.Cols = append(x.Cols, g.oddInt())
			}
			t.Indexes = append(t.Indexes, x)
		}
		list = append(list, t)
	}
	return list
}

// TestP1P23_1Wrong makes plans of terms that no statement has: each call ends, and an error comes alone.
func TestP1P23_1Wrong(t *testing.T) {
	g := newMaker(5)
	made := 0
	for range 25000 {
		x := api.Term{Kind: pick(g, api.StInsert, api.StSelect, api.StUpdate, api.StDelete, g.oddInt()), Tables: g.oddTables(), Conds: g.oddCodes(2), Items: g.oddCodes(1), Order: g.oddCodes(1), Desc: make([]bool, g.IntN(3))}
		for range g.IntN(3) {
			x.Rows = append(x.Rows, g.oddCodes(1))
		}
		p, code := plan.Make(x)
		if code == api.OK {
			made++
		}
		if code != api.OK && (code != api.ErrPlan || p.Table != "" || len(p.Code) != 0) {
			t.Errorf("%+v: %d, %+v", x, code, p)
		}
		if again, same := plan.Make(x); same != code || fmt.Sprint(again) != fmt.Sprint(p) {
			t.Errorf("%+v: one answer, then another one", x)
		}
	}
	if made < 5000 {
		t.Errorf("%d plans", made)
	}
}

// TestP1P23_1Deep has a condition with many parts in one another.
func TestP1P23_1Deep(t *testing.T) {
	deep := api.Code{Op: api.OpColumn, Type: api.Bool}
	for range 1 << 16 {
		deep = api.Code{Op: api.OpAnd, Type: api.Bool, Args: []api.Code{{Op: api.OpNot, Type: api.Bool, Args: []api.Code{deep}}, {Op: api.OpColumn, Type: api.Bool}}}
	}
	tables := []api.Table{{Name: "t", Cols: []api.Column{{Name: "a", Type: api.Bool}}}}
	if p, code := plan.Make(api.Term{Kind: api.StSelect, Tables: tables, Conds: []api.Code{deep}, Items: []api.Code{deep}}); code != api.OK || len(p.Code) == 0 {
		t.Errorf("%d", code)
	}
}
