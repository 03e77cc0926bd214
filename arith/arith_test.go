package arith_test

import (
	"math"
	"math/big"
	"slices"
	"strings"
	"testing"

	"hasp/api"
	"hasp/arith"
	"hasp/real"
)

const (
	least int64 = math.MinInt64
	most  int64 = math.MaxInt64
)

var none = api.Value{}

func whole(n int64) api.Value { return api.Value{Kind: api.Int, Num: n} }

func point(f float64) api.Value {
	return api.Value{Kind: api.Real, Num: real.Canon(int64(math.Float64bits(f)))}
}

func text(s string) api.Value { return api.Value{Kind: api.Text, Text: s} }

func truth(n int64) api.Value { return api.Value{Kind: api.Bool, Num: n} }

// nine is this layer's operators.
func nine() []int {
	return []int{api.OpAdd, api.OpSub, api.OpMul, api.OpDiv, api.OpMod, api.OpCat, api.OpNeg, api.OpToInt, api.OpToReal}
}

// others is operators that this layer hasn't, and numbers that are none.
func others() []int {
	return []int{api.OpEq, api.OpNe, api.OpLt, api.OpLe, api.OpGt, api.OpGe, api.OpNot, api.OpAnd, api.OpOr, api.OpIsNull, api.OpNotNull, api.OpConst, api.OpColumn, 0, -1, 23, math.MinInt, math.MaxInt}
}

func takesTwo(op int) bool { return op >= api.OpAdd && op <= api.OpCat }

// answers says which type an operator's answer has, for types of one kind, as the chapter lists them.
func answers(op, kind int) (int, bool) {
	type row struct{ op, kind int }
	answer, ok := map[row]int{
		{api.OpAdd, api.Int}: api.Int, {api.OpAdd, api.Real}: api.Real,
		{api.OpSub, api.Int}: api.Int, {api.OpSub, api.Real}: api.Real,
		{api.OpMul, api.Int}: api.Int, {api.OpMul, api.Real}: api.Real,
		{api.OpDiv, api.Int}: api.Int, {api.OpDiv, api.Real}: api.Real,
		{api.OpMod, api.Int}: api.Int, {api.OpMod, api.Null}: api.Int,
		{api.OpCat, api.Text}: api.Text, {api.OpCat, api.Null}: api.Text,
		{api.OpNeg, api.Int}: api.Int, {api.OpNeg, api.Real}: api.Real,
		{api.OpToInt, api.Bool}: api.Int, {api.OpToInt, api.Int}: api.Int, {api.OpToInt, api.Real}: api.Int, {api.OpToInt, api.Null}: api.Int,
		{api.OpToReal, api.Int}: api.Real, {api.OpToReal, api.Real}: api.Real, {api.OpToReal, api.Null}: api.Real,
	}[row{op, kind}]
	return answer, ok
}

func kinds() []int { return []int{api.Null, api.Bool, api.Int, api.Real, api.Text} }

func checkType(t *testing.T, op int, types []int, want int, ok bool) {
	t.Helper()
	if got, fits := arith.Type(op, types); got != want || fits != ok {
		t.Errorf("Type(%d, %v) = %d, %v, not %d, %v", op, types, got, fits, want, ok)
	}
}

func TestP3_1OneOperand(t *testing.T) {
	for _, op := range []int{api.OpNeg, api.OpToInt, api.OpToReal} {
		for _, kind := range kinds() {
			want, ok := answers(op, kind)
			checkType(t, op, []int{kind}, want, ok)
		}
	}
}

func TestP3_1TwoOperands(t *testing.T) {
	for _, op := range nine()[:6] {
		for _, a := range kinds() {
			for _, b := range kinds() {
				want, ok := 0, false
				if a == b || b == api.Null {
					want, ok = answers(op, a)
				} else if a == api.Null {
					want, ok = answers(op, b)
				}
				checkType(t, op, []int{a, b}, want, ok)
			}
		}
	}
}

func TestP3_1NullFits(t *testing.T) {
	checkType(t, api.OpAdd, []int{api.Null, api.Real}, api.Real, true)
	checkType(t, api.OpAdd, []int{api.Int, api.Null}, api.Int, true)
	checkType(t, api.OpAdd, []int{api.Null, api.Null}, 0, false)
	checkType(t, api.OpCat, []int{api.Null, api.Null}, api.Text, true)
	checkType(t, api.OpMod, []int{api.Null, api.Null}, api.Int, true)
	checkType(t, api.OpMod, []int{api.Null, api.Real}, 0, false)
	checkType(t, api.OpCat, []int{api.Int, api.Null}, 0, false)
	checkType(t, api.OpNeg, []int{api.Null}, 0, false)
}

func TestP3_1WrongNumberOfOperands(t *testing.T) {
	for _, op := range nine() {
		for n := range 5 {
			if n == 1 && !takesTwo(op) || n == 2 && takesTwo(op) {
				continue
			}
			for _, kind := range kinds() {
				checkType(t, op, slices.Repeat([]int{kind}, n), 0, false)
			}
		}
	}
	checkType(t, api.OpAdd, nil, 0, false)
}

func TestP3_1WrongOperatorOrType(t *testing.T) {
	for _, op := range others() {
		for _, kind := range kinds() {
			checkType(t, op, nil, 0, false)
			checkType(t, op, []int{kind}, 0, false)
			checkType(t, op, []int{kind, kind}, 0, false)
		}
	}
	for _, op := range nine() {
		for _, kind := range []int{-1, 5, 6, math.MinInt, math.MaxInt} {
			checkType(t, op, []int{kind}, 0, false)
			checkType(t, op, []int{kind, kind}, 0, false)
			checkType(t, op, []int{api.Null, kind}, 0, false)
			checkType(t, op, []int{kind, api.Null}, 0, false)
		}
	}
}

func check(t *testing.T, op int, args []api.Value, want api.Value, code api.Errno) {
	t.Helper()
	before := slices.Clone(args)
	if v, e := arith.Do(op, args); v != want || e != code {
		t.Errorf("Do(%d, %v) = %v, %v, not %v, %v", op, args, v, e, want, code)
	}
	if !slices.Equal(before, args) {
		t.Errorf("Do(%d, %v) has changed its operands: %v", op, before, args)
	}
}

func two(t *testing.T, op int, a, b, want api.Value, code api.Errno) {
	t.Helper()
	check(t, op, []api.Value{a, b}, want, code)
}

func one(t *testing.T, op int, a, want api.Value, code api.Errno) {
	t.Helper()
	check(t, op, []api.Value{a}, want, code)
}

// sample has a right value or two of each kind.
func sample() []api.Value {
	return []api.Value{none, truth(0), truth(1), whole(7), whole(0), point(2.5), point(0), text("ab"), text("")}
}

func TestP3_2WrongOperatorAheadOfNull(t *testing.T) {
	for _, op := range others() {
		for _, a := range sample() {
			check(t, op, nil, none, api.ErrType)
			one(t, op, a, none, api.ErrType)
			two(t, op, a, a, none, api.ErrType)
			two(t, op, none, a, none, api.ErrType)
		}
	}
}

func TestP3_2WrongNumberAheadOfNull(t *testing.T) {
	for _, op := range nine() {
		for n := range 5 {
			if n == 1 && !takesTwo(op) || n == 2 && takesTwo(op) {
				continue
			}
			for _, a := range sample() {
				check(t, op, slices.Repeat([]api.Value{a}, n), none, api.ErrType)
			}
		}
	}
}

func TestP3_2NullAheadOfKinds(t *testing.T) {
	for _, op := range nine() {
		for _, a := range sample() {
			if takesTwo(op) {
				two(t, op, none, a, none, api.OK)
				two(t, op, a, none, none, api.OK)
			} else {
				one(t, op, none, none, api.OK)
			}
		}
	}
	two(t, api.OpDiv, none, whole(0), none, api.OK)
}

func TestP3_2WrongKinds(t *testing.T) {
	for _, op := range nine() {
		for _, a := range sample()[1:] {
			for _, b := range sample()[1:] {
				if _, ok := answers(op, a.Kind); takesTwo(op) && (a.Kind != b.Kind || !ok) {
					two(t, op, a, b, none, api.ErrType)
				}
			}
			if _, ok := answers(op, a.Kind); !takesTwo(op) && !ok {
				one(t, op, a, none, api.ErrType)
			}
		}
	}
	two(t, api.OpAdd, whole(1), point(1), none, api.ErrType)
	two(t, api.OpDiv, text("a"), whole(0), none, api.ErrType)
	two(t, api.OpMod, point(1), point(0), none, api.ErrType)
	one(t, api.OpToInt, text("1"), none, api.ErrType)
	one(t, api.OpToReal, truth(1), none, api.ErrType)
}

// ends has whole numbers at which results run over, and others.
func ends() []int64 {
	list := []int64{0, 1, 2, 3, 7, 10, 1<<31 - 1, 1 << 31, 1<<32 - 1, 1 << 32, 3037000499, 3037000500, 1 << 62, 1<<62 - 1, most - 1, most, least, least + 1, least / 2, most / 3, 1234567890123}
	for _, n := range slices.Clone(list) {
		list = append(list, -n)
	}
	return list
}

// exact does an operator on whole numbers that have no bounds; nil: a division by 0.
func exact(op int, a, b *big.Int) *big.Int {
	r := new(big.Int)
	switch {
	case op == api.OpAdd:
		return r.Add(a, b)
	case op == api.OpSub:
		return r.Sub(a, b)
	case op == api.OpMul:
		return r.Mul(a, b)
	case b.Sign() == 0:
		return nil
	case op == api.OpDiv:
		return r.Quo(a, b)
	}
	return r.Rem(a, b)
}

func bounded(r *big.Int) (api.Value, api.Errno) {
	switch {
	case r == nil:
		return none, api.ErrZero
	case !r.IsInt64():
		return none, api.ErrOverflow
	}
	return whole(r.Int64()), api.OK
}

func TestP3_2Ints(t *testing.T) {
	for _, op := range nine()[:5] {
		for _, a := range ends() {
			for _, b := range ends() {
				want, code := bounded(exact(op, big.NewInt(a), big.NewInt(b)))
				two(t, op, whole(a), whole(b), want, code)
			}
		}
	}
	for _, a := range ends() {
		want, code := bounded(new(big.Int).Neg(big.NewInt(a)))
		one(t, api.OpNeg, whole(a), want, code)
	}
}

func TestP3_2IntsByName(t *testing.T) {
	two(t, api.OpDiv, whole(least), whole(-1), none, api.ErrOverflow)
	two(t, api.OpMod, whole(least), whole(-1), whole(0), api.OK)
	two(t, api.OpMod, whole(-7), whole(2), whole(-1), api.OK)
	two(t, api.OpMod, whole(7), whole(-2), whole(1), api.OK)
	two(t, api.OpDiv, whole(-7), whole(2), whole(-3), api.OK)
	two(t, api.OpDiv, whole(7), whole(-2), whole(-3), api.OK)
	two(t, api.OpDiv, whole(0), whole(0), none, api.ErrZero)
	two(t, api.OpMod, whole(0), whole(0), none, api.ErrZero)
	two(t, api.OpMul, whole(least), whole(-1), none, api.ErrOverflow)
	two(t, api.OpMul, whole(-1), whole(least), none, api.ErrOverflow)
	one(t, api.OpNeg, whole(least), none, api.ErrOverflow)
	one(t, api.OpNeg, whole(most), whole(-most), api.OK)
}

func floats() []float64 {
	return []float64{0, math.Copysign(0, -1), 1, -1, 0.1, 0.2, 2.5, -7.75, 5e-324, 1e-300, 1e300, math.MaxFloat64, -math.MaxFloat64, math.Inf(1), math.Inf(-1), math.NaN()}
}

func TestP3_2Reals(t *testing.T) {
	for _, a := range floats() {
		for _, b := range floats() {
			two(t, api.OpAdd, point(a), point(b), point(a+b), api.OK)
			two(t, api.OpSub, point(a), point(b), point(a-b), api.OK)
			two(t, api.OpMul, point(a), point(b), point(a*b), api.OK)
			two(t, api.OpDiv, point(a), point(b), point(a/b), api.OK)
		}
		one(t, api.OpNeg, point(a), point(-a), api.OK)
	}
	two(t, api.OpDiv, point(1), point(0), point(math.Inf(1)), api.OK)
}

func TestP3_2Cat(t *testing.T) {
	two(t, api.OpCat, text("ab"), text("c"), text("abc"), api.OK)
	two(t, api.OpCat, text("c"), text("ab"), text("cab"), api.OK)
	two(t, api.OpCat, text(""), text(""), text(""), api.OK)
	two(t, api.OpCat, text("\xff\x00"), text("\x00'"), text("\xff\x00\x00'"), api.OK)
	for _, n := range []int{0, 1, 100, api.MaxText} {
		a, b := strings.Repeat("x", n), strings.Repeat("y", api.MaxText-n)
		two(t, api.OpCat, text(a), text(b), text(a+b), api.OK)
		two(t, api.OpCat, text(a+"x"), text(b), none, api.ErrLong)
		two(t, api.OpCat, text(a), text(b+"y"), none, api.ErrLong)
	}
	full := text(strings.Repeat("z", api.MaxText))
	two(t, api.OpCat, full, full, none, api.ErrLong)
}

func TestP3_2ToInt(t *testing.T) {
	one(t, api.OpToInt, truth(0), whole(0), api.OK)
	one(t, api.OpToInt, truth(1), whole(1), api.OK)
	for _, n := range ends() {
		one(t, api.OpToInt, whole(n), whole(n), api.OK)
	}
	for _, c := range []struct {
		from float64
		to   int64
	}{{0, 0}, {math.Copysign(0, -1), 0}, {1.9, 1}, {-1.9, -1}, {0.5, 0}, {-1 << 63, least}, {1<<63 - 1024, most - 1023}, {5e-324, 0}} {
		one(t, api.OpToInt, point(c.from), whole(c.to), api.OK)
	}
	for _, f := range []float64{math.NaN(), math.Inf(1), math.Inf(-1), 1 << 63, -1<<63 - 2048, 1e300} {
		one(t, api.OpToInt, point(f), none, api.ErrRange)
	}
}

func TestP3_2ToReal(t *testing.T) {
	for _, f := range floats() {
		one(t, api.OpToReal, point(f), point(f), api.OK)
	}
	for _, n := range ends() {
		one(t, api.OpToReal, whole(n), point(float64(n)), api.OK)
	}
	one(t, api.OpToReal, whole(1<<53+1), point(1<<53), api.OK)
}

// odd has values that aren't right: their answers aren't promised, but that they end, and are the same each time.
func odd() []api.Value {
	long := strings.Repeat("q", api.MaxText+1)
	list := []api.Value{{Num: 5}, {Text: "x"}, truth(2), truth(least), {Kind: api.Int, Num: 4, Text: long}, {Kind: api.Text, Num: 3, Text: "t"}, text(long)}
	for _, kind := range []int{-1, 5, math.MinInt, math.MaxInt} {
		list = append(list, api.Value{Kind: kind, Num: most, Text: long})
	}
	return append(list, api.Value{Kind: api.Real, Num: -1}, api.Value{Kind: api.Real, Num: 0x7ff0000000000001})
}

func TestP1P2AnyArguments(t *testing.T) {
	type call struct {
		op   int
		args []api.Value
	}
	type answer struct {
		v    api.Value
		e    api.Errno
		kind int
		fits bool
	}
	values := append(sample(), odd()...)
	calls := []call{}
	for _, op := range append(nine(), others()...) {
		calls = append(calls, call{op, nil})
		for _, a := range values {
			calls = append(calls, call{op, []api.Value{a}}, call{op, []api.Value{a, a, a}})
			for _, b := range values {
				calls = append(calls, call{op, []api.Value{a, b}})
			}
		}
	}
	do := func(c call) answer {
		types := []int{}
		for _, v := range c.args {
			types = append(types, v.Kind)
		}
		var a answer
		a.v, a.e = arith.Do(c.op, c.args)
		a.kind, a.fits = arith.Type(c.op, types)
		return a
	}
	first := []answer{}
	for _, c := range calls {
		first = append(first, do(c))
	}
	for i, c := range slices.Backward(calls) {
		a := do(c)
		if a != first[i] {
			t.Errorf("%v: %v, then %v", c, first[i], a)
		}
		if a.e != api.OK && a.v != none || !a.fits && a.kind != 0 {
			t.Errorf("%v: %v: a result beside an error", c, a)
		}
	}
}
