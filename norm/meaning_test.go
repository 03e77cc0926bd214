package norm_test

import (
	"math"
	"math/rand/v2"
	"testing"

	"hasp/api"
	"hasp/expr"
	"hasp/logic"
	"hasp/norm"
)

// condition makes a condition at random whose parts are true, false, unknown, and meet errors of several numbers.
func condition(r *rand.Rand, depth int) api.Code {
	if depth > 0 && r.IntN(4) > 0 {
		switch r.IntN(8) {
		case 0:
			return do(api.OpNot, condition(r, depth-1))
		case 1:
			return do(api.OpOr, condition(r, depth-1), condition(r, depth-1))
		}
		return do(api.OpAnd, condition(r, depth-1), condition(r, depth-1))
	}
	op := []int{api.OpEq, api.OpLt, api.OpLe, api.OpGt, api.OpGe, api.OpNe}[r.IntN(6)]
	return do(op, number(r), number(r))
}

// number makes an operand of which the value is a whole number, Null or an error.
func number(r *rand.Rand) api.Code {
	leaf := func() api.Code { return []api.Code{col(0, 0), col(0, 1), col(1, 0), con(1), con(2)}[r.IntN(5)] }
	switch r.IntN(6) {
	case 0:
		return api.Code{Op: api.OpDiv, Type: api.Int, Args: []api.Code{leaf(), leaf()}}
	case 1:
		return api.Code{Op: api.OpAdd, Type: api.Int, Args: []api.Code{leaf(), leaf()}}
	}
	return leaf()
}

// rows makes rows of two sources.
func rows(r *rand.Rand) [][]api.Value {
	v := func() api.Value {
		return []api.Value{{}, {Kind: api.Int}, {Kind: api.Int, Num: 1}, {Kind: api.Int, Num: 2}, {Kind: api.Int, Num: math.MaxInt64}}[r.IntN(5)]
	}
	return [][]api.Value{{v(), v()}, {v()}}
}

// sieve tells what the conjuncts of a condition say, in that order.
func sieve(list []api.Code, over [][]api.Value) (bool, api.Errno) {
	var all []api.Verdict
	for _, c := range list {
		all = append(all, expr.Test(c, over))
	}
	return logic.Sieve(all)
}

// TestP18_4AnyOrder holds that the conjuncts say the same in whatever order they stand, and the same as the whole where it is no error.
func TestP18_4AnyOrder(t *testing.T) {
	r := rand.New(rand.NewPCG(18, 4))
	truths, errors := map[int]int{}, map[api.Errno]int{}
	for range 20000 {
		c, over := condition(r, 4), rows(r)
		list, whole := norm.Conjuncts(c), expr.Test(c, over)
		through, code := sieve(list, over)
		for range 4 {
			r.Shuffle(len(list), func(i, k int) { list[i], list[k] = list[k], list[i] })
			if again, same := sieve(list, over); again != through || same != code {
				t.Errorf("%v over %v: %v, %d, in another order %v, %d", c, over, through, code, again, same)
			}
		}
		if whole.E == api.OK && (through != (whole.T == api.True) || code != api.OK) {
			t.Errorf("%v over %v: %+v, but its conjuncts say %v, %d", c, over, whole, through, code)
		}
		if whole.E == api.OK {
			truths[whole.T]++
		}
		errors[code]++
	}
	if len(truths) != 3 || len(errors) != 3 || min(truths[0], truths[1], truths[2]) < 300 {
		t.Errorf("truths %v, errors %v", truths, errors)
	}
}

// TestP18_3SaysTheSame holds that column, operator and operand say what the condition says.
func TestP18_3SaysTheSame(t *testing.T) {
	r := rand.New(rand.NewPCG(18, 3))
	found := 0
	for range 20000 {
		c, over := condition(r, 0), rows(r)
		for tab := range 2 {
			x, ok := norm.Bound(c, tab)
			if !ok {
				continue
			}
			found++
			if got, want := expr.Test(do(x.Op, col(tab, x.Col), x.E), over), expr.Test(c, over); got != want {
				t.Errorf("%v over %v: %+v says %+v, not %+v", c, over, x, got, want)
			}
		}
	}
	if found < 5000 {
		t.Errorf("%d bounds", found)
	}
}
