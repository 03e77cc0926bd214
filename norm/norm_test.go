package norm_test

import (
	"fmt"
	"math"
	"math/rand/v2"
	"slices"
	"testing"

	"hasp/api"
	"hasp/norm"
)

func con(n int64) api.Code {
	return api.Code{Op: api.OpConst, Type: api.Int, Val: api.Value{Kind: api.Int, Num: n}}
}

func col(tab, c int) api.Code { return api.Code{Op: api.OpColumn, Type: api.Int, Tab: tab, Col: c} }

func do(op int, args ...api.Code) api.Code { return api.Code{Op: op, Type: api.Bool, Args: args} }

// text shows a code, so that two can be held against each other.
func text(c api.Code) string {
	s := fmt.Sprint(c.Op, c.Type, c.Val, c.Tab, c.Col, "(")
	for _, a := range c.Args {
		s += text(a)
	}
	return s + ")"
}

func texts(list []api.Code) []string {
	var all []string
	for _, c := range list {
		all = append(all, text(c))
	}
	return all
}

func conjuncts(t *testing.T, c api.Code, want ...api.Code) {
	t.Helper()
	if got := norm.Conjuncts(c); !slices.Equal(texts(got), texts(want)) {
		t.Errorf("Conjuncts(%v) = %v, not %v", c, got, want)
	}
}

func TestP18_1Example(t *testing.T) {
	a, b, c := do(api.OpEq, col(0, 0), con(1)), do(api.OpLt, col(0, 1), con(2)), col(0, 2)
	conjuncts(t, do(api.OpAnd, a, do(api.OpAnd, b, c)), a, b, c)
	conjuncts(t, do(api.OpAnd, do(api.OpAnd, c, b), a), c, b, a)
}

// TestP18_1Kept goes through what is no AND of two: it stays whole, whatever stands in it.
func TestP18_1Kept(t *testing.T) {
	a, b := col(0, 0), con(1)
	inner := do(api.OpAnd, a, b)
	for op := -1; op <= api.OpColumn+1; op++ {
		for _, args := range [][]api.Code{nil, {inner}, {inner, inner}, {inner, inner, inner}} {
			if c := do(op, args...); op != api.OpAnd || len(args) != 2 {
				conjuncts(t, c, c)
				conjuncts(t, do(api.OpAnd, inner, c), a, b, c)
				conjuncts(t, do(api.OpAnd, c, inner), c, a, b)
			} else {
				conjuncts(t, c, a, b, a, b)
			}
		}
	}
	conjuncts(t, api.Code{}, api.Code{})
}

func sources(t *testing.T, c api.Code, want ...int) {
	t.Helper()
	if got := norm.Sources(c); !slices.Equal(got, want) {
		t.Errorf("Sources(%v) = %v, not %v", c, got, want)
	}
}

func TestP18_2Sources(t *testing.T) {
	sources(t, con(7))
	sources(t, api.Code{})
	sources(t, api.Code{Op: api.OpConst, Tab: 3, Col: 2})
	sources(t, col(2, 0), 2)
	sources(t, do(api.OpEq, col(3, 0), col(1, 9)), 1, 3)
	sources(t, do(api.OpEq, col(1, 0), col(1, 9)), 1)
	sources(t, do(api.OpAnd, do(api.OpNot, col(0, 1)), do(api.OpOr, col(2, 0), col(0, 0))), 0, 2)
	sources(t, do(api.OpEq, col(math.MaxInt, 0), do(api.OpNeg, col(math.MinInt, 0)), col(-1, 0), col(12, 0), col(2, 0)), math.MinInt, -1, 2, 12, math.MaxInt)
	c := col(5, 0)
	c.Args = []api.Code{col(4, 0), {Op: 99, Tab: 7, Args: []api.Code{col(9, 1)}}}
	sources(t, c, 4, 5, 9)
}

// over tells whether a code has a column of that source: a judge by way of Sources, which stands by itself.
func over(c api.Code, tab int) bool { return slices.Contains(norm.Sources(c), tab) }

// bounded judges by the chapter's words.
func bounded(c api.Code, tab int) (api.Range, bool) {
	straight := []int{api.OpEq, api.OpLt, api.OpLe, api.OpGt, api.OpGe}
	mirrored := []int{api.OpEq, api.OpGt, api.OpGe, api.OpLt, api.OpLe}
	at := slices.Index(straight, c.Op)
	if at < 0 || len(c.Args) != 2 {
		return api.Range{}, false
	}
	for side, ops := range [][]int{straight, mirrored} {
		column, other := c.Args[side], c.Args[1-side]
		if column.Op == api.OpColumn && column.Tab == tab && !over(other, tab) {
			return api.Range{Col: column.Col, Op: ops[at], E: other}, true
		}
	}
	return api.Range{}, false
}

func bound(t *testing.T, c api.Code, tab int, want api.Range, there bool) {
	t.Helper()
	got, ok := norm.Bound(c, tab)
	if ok != there || got.Col != want.Col || got.Op != want.Op || text(got.E) != text(want.E) {
		t.Errorf("Bound(%v, %d) = %v, %v, not %v, %v", c, tab, got, ok, want, there)
	}
}

func TestP18_3Examples(t *testing.T) {
	bound(t, do(api.OpLt, con(5), col(0, 0)), 0, api.Range{Col: 0, Op: api.OpGt, E: con(5)}, true)
	bound(t, do(api.OpEq, col(0, 0), col(0, 1)), 0, api.Range{}, false)
	bound(t, do(api.OpLe, col(0, 3), col(1, 4)), 0, api.Range{Col: 3, Op: api.OpLe, E: col(1, 4)}, true)
	bound(t, do(api.OpLe, col(0, 3), col(1, 4)), 1, api.Range{Col: 4, Op: api.OpGe, E: col(0, 3)}, true)
	bound(t, do(api.OpGe, do(api.OpAdd, col(2, 1), con(1)), col(1, 4)), 1, api.Range{Col: 4, Op: api.OpLe, E: do(api.OpAdd, col(2, 1), con(1))}, true)
	bound(t, do(api.OpGt, col(1, 4), do(api.OpNeg, col(1, 4))), 1, api.Range{}, false)
}

// TestP18_3All goes through all operators, with few and too many operands of many shapes.
func TestP18_3All(t *testing.T) {
	within := col(1, 2)
	within.Args = []api.Code{col(0, 3)}
	shapes := []api.Code{{}, con(4), col(0, 0), col(0, 1), col(1, 2), col(-1, -7), do(api.OpNeg, col(0, 0)), do(api.OpAdd, col(1, 1), con(2)), do(api.OpAdd, con(1), do(api.OpNeg, col(0, 5))), {Op: api.OpConst, Tab: 0, Col: 1}, within}
	found := 0
	for op := -2; op <= api.OpColumn+2; op++ {
		for _, a := range shapes {
			for _, b := range shapes {
				for _, args := range [][]api.Code{{}, {a}, {a, b}, {a, b, a}} {
					for tab := -1; tab <= 2; tab++ {
						c := do(op, args...)
						want, there := bounded(c, tab)
						bound(t, c, tab, want, there)
						if there {
							found++
						}
					}
				}
			}
		}
	}
	if found < 200 {
		t.Errorf("%d bounds", found)
	}
	bound(t, col(0, 0), 0, api.Range{}, false)
	bound(t, do(api.OpEq, col(math.MinInt, math.MaxInt), con(1)), math.MinInt, api.Range{Col: math.MaxInt, Op: api.OpEq, E: con(1)}, true)
	bound(t, do(api.OpEq, con(1), col(math.MaxInt, math.MinInt)), math.MaxInt, api.Range{Col: math.MinInt, Op: api.OpEq, E: con(1)}, true)
}

// anyCode makes a code of any shape at random.
func anyCode(r *rand.Rand, depth int) api.Code {
	c := api.Code{Op: r.IntN(26) - 1, Type: r.IntN(6), Tab: r.IntN(5) - 1, Col: r.IntN(4), Val: api.Value{Kind: api.Int, Num: r.Int64N(9)}}
	switch r.IntN(4) {
	case 0:
		c.Op = api.OpAnd
	case 1:
		c.Op = api.OpColumn
	}
	if depth > 0 && (c.Op != api.OpColumn || r.IntN(9) == 0) {
		for range r.IntN(4) {
			c.Args = append(c.Args, anyCode(r, depth-1))
		}
	}
	return c
}

// walk goes through a code and all that stands in it.
func walk(c api.Code, meet func(api.Code)) {
	meet(c)
	for _, a := range c.Args {
		walk(a, meet)
	}
}

// TestP18_1Random holds the three calls against the chapter's words at codes of any shape.
func TestP18_1Random(t *testing.T) {
	r := rand.New(rand.NewPCG(18, 1))
	for range 20000 {
		c := anyCode(r, 5)
		var parts []api.Code
		for rest := []api.Code{c}; len(rest) > 0; {
			if x := rest[0]; x.Op == api.OpAnd && len(x.Args) == 2 {
				rest = append(slices.Clone(x.Args), rest[1:]...)
			} else {
				parts, rest = append(parts, x), rest[1:]
			}
		}
		conjuncts(t, c, parts...)
		var tabs []int
		walk(c, func(x api.Code) {
			if x.Op == api.OpColumn {
				tabs = append(tabs, x.Tab)
			}
		})
		slices.Sort(tabs)
		sources(t, c, slices.Compact(tabs)...)
		walk(c, func(x api.Code) {
			for tab := -1; tab <= 3; tab++ {
				want, there := bounded(x, tab)
				bound(t, x, tab, want, there)
			}
		})
	}
}

// TestP1P18_1Deep has as many parts in one another as the document's bounds allow.
func TestP1P18_1Deep(t *testing.T) {
	left, right := col(1, 0), col(1, 0)
	for range 1<<16 - 2 {
		left, right = do(api.OpAnd, left, con(1)), do(api.OpAnd, con(1), right)
	}
	for _, c := range []api.Code{left, right} {
		if n := len(norm.Conjuncts(c)); n != 1<<16-1 {
			t.Errorf("%d conjuncts", n)
		}
		sources(t, c, 1)
		got, ok := norm.Bound(do(api.OpLt, c, col(0, 3)), 0)
		if !ok || got.Col != 3 || got.Op != api.OpGt || len(norm.Conjuncts(got.E)) != 1<<16-1 {
			t.Errorf("Bound = %d, %d, %v", got.Col, got.Op, ok)
		}
		if _, ok := norm.Bound(do(api.OpLt, c, col(1, 3)), 1); ok {
			t.Error("Bound of a column of the same source")
		}
	}
}
