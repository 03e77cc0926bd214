package expr_test

import (
	"fmt"
	"math"
	"math/rand/v2"
	"slices"
	"testing"

	"hasp/api"
	"hasp/bind"
	"hasp/expr"
)

func pick[T any](r *rand.Rand, list ...T) T { return list[r.IntN(len(list))] }

// code makes a code at random, of which few are as bind makes them.
func code(r *rand.Rand, depth int, leaves []api.Code) api.Code {
	if depth == 0 || r.IntN(6) == 0 {
		return pick(r, leaves...)
	}
	c := api.Code{Op: 1 + r.IntN(20), Type: r.IntN(7) - 1}
	n := takes(c.Op)
	if r.IntN(100) == 0 {
		c.Op, n = r.IntN(30)-3, r.IntN(4)
	}
	for range n {
		c.Args = append(c.Args, code(r, depth-1, leaves))
	}
	return c
}

// leaves gives few values, so that operators often take what they get, and columns, of which some aren't there.
func leaves(r *rand.Rand) []api.Code {
	kind := pick(r, [][]api.Value{
		{truth(false), truth(true), null(), truth(true)},
		{whole(0), whole(1), whole(2), whole(-3), whole(math.MaxInt64), whole(math.MinInt64)},
		{point(0), point(1.5), point(-1), point(math.Inf(1)), point(math.NaN()), point(1e19)},
		{text(""), text("a"), text("b"), null()},
		samples(),
	}...)
	list := []api.Code{col(0, 0), col(0, 1), col(0, 2), col(1, 0), col(1, 1), pick(r, col(2, 0), col(0, 9), col(-1, 0), col(0, 1))}
	for _, v := range kind {
		list = append(list, con(v), con(v))
	}
	return list
}

// over makes rows of two sources.
func over(r *rand.Rand) [][]api.Value {
	v := func() api.Value { return pick(r, samples()...) }
	return [][]api.Value{{v(), v(), v()}, {v(), v()}}
}

// TestP17_1Random holds Eval, Test and Row against the chapters' words.
func TestP17_1Random(t *testing.T) {
	r := rand.New(rand.NewPCG(17, 1))
	met := map[api.Errno]int{}
	for range 60000 {
		c, rows := code(r, 1+r.IntN(5), leaves(r)), over(r)
		want := judged(c, rows)
		met[want.e]++
		eval(t, c, rows, want)
		v, e := expr.Row([]api.Code{c, con(null())}, rows)
		if e != want.e || e == api.OK && v[0] != want.v {
			t.Errorf("%+v in a row: %v, %d", c, v, e)
		}
		truth := expr.Test(c, rows)
		if (truth.E != api.OK) != (want.e != api.OK || want.v.Kind > api.Bool) {
			t.Errorf("%+v: %+v", c, truth)
		}
	}
	for _, e := range []api.Errno{api.OK, api.ErrType, api.ErrColumn, api.ErrZero, api.ErrOverflow, api.ErrRange} {
		if met[e] < 30 {
			t.Errorf("%d codes with %d", met[e], e)
		}
	}
}

// turned gives a code with the operands of those operators turned round for which their order makes no difference.
func turned(c api.Code) api.Code {
	var args []api.Code
	for _, a := range c.Args {
		args = append(args, turned(a))
	}
	switch c.Op {
	case api.OpEq, api.OpNe, api.OpAnd, api.OpOr:
		slices.Reverse(args)
	}
	c.Args = args
	return c
}

// TestP17_1AnyOrder holds that which error counts doesn't hang on the order.
func TestP17_1AnyOrder(t *testing.T) {
	r := rand.New(rand.NewPCG(17, 2))
	for range 20000 {
		c, rows := code(r, 5, leaves(r)), over(r)
		v, e := expr.Eval(c, rows)
		eval(t, turned(c), rows, result{v, e})
	}
}

// TestP17_3Memory holds that what is handed in isn't changed, and that a row is new memory.
func TestP17_3Memory(t *testing.T) {
	r := rand.New(rand.NewPCG(17, 3))
	for range 2000 {
		rows := over(r)
		list := append(make([]api.Code, 0, 4), code(r, 2, leaves(r)), code(r, 2, leaves(r)))
		rows[0] = append(make([]api.Value, 0, 5), rows[0]...)
		before := fmt.Sprintf("%+v %+v %+v", list[:4], rows, rows[0][:5])
		first, e := expr.Row(list, rows)
		kept := slices.Clone(first)
		second, again := expr.Row(list, rows)
		if e != again || !slices.Equal(first, second) {
			t.Errorf("%+v: %v, %d, then %v, %d", list, first, e, second, again)
		}
		for i := range second {
			second[i] = text("spoilt")
		}
		if fmt.Sprintf("%+v %+v %+v", list[:4], rows, rows[0][:5]) != before {
			t.Errorf("%s is changed", before)
		}
		for i := range rows[0] {
			rows[0][i] = text("written over")
		}
		if !slices.Equal(first, kept) {
			t.Errorf("%v, then %v", kept, first)
		}
	}
}

// TestP1P17_1AnyValues holds that values that aren't right make no panic, and that an error stands alone.
func TestP1P17_1AnyValues(t *testing.T) {
	r := rand.New(rand.NewPCG(17, 4))
	v := func() api.Value {
		return api.Value{Kind: r.IntN(8) - 2, Num: pick[int64](r, 0, 1, 2, -1, math.MinInt64, 0x7ff8000000000001), Text: pick(r, "", "x", "\xff\x00")}
	}
	for range 40000 {
		list := []api.Code{con(v()), con(v()), col(0, 0), col(0, 1), col(1, 0)}
		rows := [][]api.Value{{v(), v()}, {v()}}
		c := code(r, 3, list)
		got, e := expr.Eval(c, rows)
		if e != api.OK && got != (api.Value{}) {
			t.Errorf("%+v: %v beside %d", c, got, e)
		}
		if x := expr.Test(c, rows); x.E != api.OK && x.T != api.False {
			t.Errorf("%+v: %+v", c, x)
		}
		if x, e := expr.Row([]api.Code{c, list[0]}, rows); e != api.OK && len(x) > 0 {
			t.Errorf("%+v: %v beside %d", c, x, e)
		}
	}
}

// TestP1P17_1Deep has as many operators in one another as the document's bounds allow.
func TestP1P17_1Deep(t *testing.T) {
	c, d := con(truth(true)), con(whole(1))
	for range 1<<16 - 1 {
		c, d = do(api.OpNot, c), do(api.OpNeg, d)
	}
	eval(t, c, nil, is(truth(false)))
	eval(t, d, nil, is(whole(-1)))
	if v := expr.Test(c, nil); v != (api.Verdict{T: api.False}) {
		t.Errorf("deep: %v", v)
	}
	e := con(whole(0))
	for range 1<<16 - 1 {
		e = do(api.OpAdd, e, con(whole(1)))
	}
	eval(t, e, nil, is(whole(1<<16-1)))
}

// trees gives the expressions of all operators over these operands.
func trees(firsts, seconds []api.Expr) []api.Expr {
	var list []api.Expr
	for op := api.OpEq; op <= api.OpNotNull; op++ {
		for _, a := range firsts {
			if takes(op) == 1 {
				list = append(list, api.Expr{Op: op, Args: []api.Expr{a}})
				continue
			}
			for _, b := range seconds {
				list = append(list, api.Expr{Op: op, Args: []api.Expr{a, b}}, api.Expr{Op: op, Args: []api.Expr{b, a}})
			}
		}
	}
	return list
}

// fitting gives rows that fit t: every sample in the column of its type, and some without Null.
func fitting() [][]api.Value {
	var rows [][]api.Value
	for _, v := range samples() {
		row := []api.Value{null(), null(), null(), null()}
		for place, c := range table().Cols {
			if c.Type == v.Kind {
				row[place] = v
			}
		}
		rows = append(rows, row)
	}
	return append(rows, []api.Value{whole(3), text("x"), point(1.5), truth(true)}, []api.Value{whole(math.MinInt64), text("y"), point(math.NaN()), truth(false)})
}

// taken gives those expressions that bind takes; all their values are null or of the code's type, with no error of types and columns.
func taken(t *testing.T, list []api.Expr) []api.Expr {
	var right []api.Expr
	for _, e := range list {
		st := api.Stmt{Kind: api.StSelect, From: []api.Source{{Table: "t"}}, Items: []api.Item{{E: e}}}
		x, code := bind.Bind(st, []api.Table{table()})
		if code != api.OK {
			continue
		}
		right = append(right, e)
		for _, row := range fitting() {
			v, code := expr.Eval(x.Items[0], [][]api.Value{row})
			if code == api.ErrType || code == api.ErrColumn || v.Kind != api.Null && v.Kind != x.Items[0].Type {
				t.Errorf("%+v over %v: %v, %d", x.Items[0], row, v, code)
			}
		}
	}
	return right
}

// TestP17_4Bound goes through all right expressions of few operators over columns and constants of all types.
func TestP17_4Bound(t *testing.T) {
	var leaves []api.Expr
	for _, c := range table().Cols {
		constant := api.Expr{Op: api.OpConst, Kind: c.Type}
		if c.Type == api.Real {
			constant.Scale = 1
		}
		leaves = append(leaves, api.Expr{Op: api.OpColumn, Text: c.Name}, constant)
	}
	leaves = append(leaves, api.Expr{Op: api.OpConst})
	first := taken(t, trees(leaves, leaves))
	second := taken(t, trees(first, leaves))
	if len(first) < 300 || len(second) < 8000 {
		t.Errorf("%d expressions of one operator, %d of two", len(first), len(second))
	}
}

// TestP17_4Join evaluates codes over the rows of two sources, in their order.
func TestP17_4Join(t *testing.T) {
	for n, want := range []api.Value{whole(1), text("p"), whole(2), text("q")} {
		st := api.Stmt{Kind: api.StSelect, From: []api.Source{{Table: "k", Alias: "x"}, {Table: "k", Alias: "y", On: api.Expr{Op: api.OpConst}}}}
		x, code := bind.Bind(st, []api.Table{{Name: "k", Cols: []api.Column{{Name: "a", Type: api.Int}, {Name: "b", Type: api.Text}}}})
		if code != api.OK {
			t.Fatal(code)
		}
		eval(t, x.Items[n], [][]api.Value{{whole(1), text("p")}, {whole(2), text("q")}}, is(want))
	}
}
