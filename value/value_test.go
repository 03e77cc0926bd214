package value_test

import (
	"math"
	"slices"
	"strings"
	"testing"

	"hasp/api"
	"hasp/real"
	"hasp/value"
)

const negZero int64 = math.MinInt64

func b(f float64) int64 { return int64(math.Float64bits(f)) }

func boolean(n int64) api.Value { return api.Value{Kind: api.Bool, Num: n} }

func whole(n int64) api.Value { return api.Value{Kind: api.Int, Num: n} }

func point(bits int64) api.Value { return api.Value{Kind: api.Real, Num: bits} }

func text(s string) api.Value { return api.Value{Kind: api.Text, Text: s} }

// line is right values in their order, no two at one place.
func line() []api.Value {
	return []api.Value{
		{}, boolean(0), boolean(1),
		whole(math.MinInt64), whole(-1), whole(0), whole(1), whole(math.MaxInt64),
		point(b(math.Inf(-1))), point(b(-1)), point(0), point(b(5e-324)), point(b(1)), point(b(math.Inf(1))), point(real.NaN),
		text(""), text("\x00"), text("A"), text("a"), text("a\x00"), text("aa"), text("b"), text("é"), text("\xff"), text(strings.Repeat("\xff", 200)),
	}
}

// wrong is values of which none is right, in their order, no two at one place.
func wrong() []api.Value {
	return []api.Value{
		{Kind: math.MinInt}, {Kind: -1, Num: -5, Text: "b"}, {Kind: -1, Num: 5, Text: "a"},
		{Kind: api.Null, Num: 1},
		{Kind: api.Bool, Num: -1}, {Kind: api.Bool, Num: 2}, {Kind: api.Bool, Num: 3, Text: "x"},
		{Kind: api.Int, Num: -8, Text: "z"}, {Kind: api.Int, Num: 8, Text: "y"},
		{Kind: api.Real, Num: b(-3), Text: "x"}, {Kind: api.Real, Num: -1},
		{Kind: api.Text, Num: 9, Text: "a"}, {Kind: api.Text, Num: -9, Text: "c"}, {Kind: api.Text, Text: strings.Repeat("d", 201)},
		{Kind: 5, Num: 1, Text: "b"}, {Kind: 5, Num: 2, Text: "a"}, {Kind: math.MaxInt},
	}
}

func sign(i, k int) int {
	if i < k {
		return -1
	} else if i > k {
		return 1
	}
	return 0
}

func TestP2_1Right(t *testing.T) {
	for _, v := range append(line(), point(negZero), text(strings.Repeat("é", 100))) {
		if e := value.Check(v); e != api.OK {
			t.Errorf("Check(%v) = %v", v, e)
		}
	}
}

func TestP2_1Wrong(t *testing.T) {
	long := strings.Repeat("x", 201)
	for _, c := range []struct {
		v api.Value
		e api.Errno
	}{
		{api.Value{Kind: -1}, api.ErrKind},
		{api.Value{Kind: 5}, api.ErrKind},
		{api.Value{Kind: math.MinInt}, api.ErrKind},
		{api.Value{Kind: 5, Num: 1, Text: long}, api.ErrKind},
		{api.Value{Kind: api.Null, Num: 1}, api.ErrArg},
		{api.Value{Kind: api.Bool, Num: 2}, api.ErrArg},
		{api.Value{Kind: api.Bool, Num: -1}, api.ErrArg},
		{api.Value{Kind: api.Real, Num: -1}, api.ErrArg},
		{api.Value{Kind: api.Real, Num: 0x7ff0000000000001}, api.ErrArg},
		{api.Value{Kind: api.Text, Num: 1}, api.ErrArg},
		{api.Value{Kind: api.Text, Num: 1, Text: long}, api.ErrArg},
		{api.Value{Kind: api.Null, Text: "x"}, api.ErrArg},
		{api.Value{Kind: api.Bool, Text: "x"}, api.ErrArg},
		{api.Value{Kind: api.Int, Text: "x"}, api.ErrArg},
		{api.Value{Kind: api.Real, Text: "x"}, api.ErrArg},
		{api.Value{Kind: api.Int, Text: long}, api.ErrArg},
		{api.Value{Kind: api.Text, Text: long}, api.ErrLong},
	} {
		if e := value.Check(c.v); e != c.e {
			t.Errorf("Check(%v) = %v, not %v", c.v, e, c.e)
		}
	}
}

func TestP2_2Compare(t *testing.T) {
	for _, list := range [][]api.Value{line(), wrong()} {
		for i, a := range list {
			for k, c := range list {
				if got := value.Compare(a, c); got != sign(i, k) {
					t.Errorf("Compare(%v, %v) = %d", a, c, got)
				}
			}
		}
	}
}

func TestP2_2OnePlace(t *testing.T) {
	for _, c := range [][2]api.Value{
		{point(0), point(negZero)},
		{point(real.NaN), point(-1)},
		{{Kind: api.Null, Num: 7}, {Kind: api.Null, Text: "x"}},
		{{Kind: api.Int, Num: 3, Text: "x"}, whole(3)},
		{{Kind: api.Bool, Num: 1, Text: "x"}, boolean(1)},
		{{Kind: api.Real, Num: b(2), Text: "x"}, point(b(2))},
		{{Kind: api.Text, Num: 4, Text: "x"}, text("x")},
		{{Kind: 77, Num: 4, Text: "x"}, {Kind: 77, Num: 4, Text: "y"}},
	} {
		if value.Compare(c[0], c[1]) != 0 || value.Compare(c[1], c[0]) != 0 {
			t.Errorf("%v and %v are at two places", c[0], c[1])
		}
	}
	if value.Compare(whole(5), point(0)) != -1 {
		t.Error("Int 5 isn't ahead of Real 0")
	}
}

func TestP2_2Rows(t *testing.T) {
	one, two := whole(1), whole(2)
	list := [][]api.Value{nil, {{}}, {{}, two}, {one}, {one, {}}, {one, one}, {one, one, one}, {one, two}, {two}, {two, one}, {text("a")}}
	for i, a := range list {
		for k, c := range list {
			if got := value.Rows(a, c); got != sign(i, k) {
				t.Errorf("Rows(%v, %v) = %d", a, c, got)
			}
		}
	}
	if value.Rows(nil, []api.Value{}) != 0 {
		t.Error("a nil list and one without elements aren't one")
	}
	if value.Rows([]api.Value{point(0), two}, []api.Value{point(negZero), one}) != 1 {
		t.Error("0 and -0 are a difference")
	}
}

func TestP2_2RowsUnchanged(t *testing.T) {
	a, c := []api.Value{whole(1), text("x"), point(-1)}, []api.Value{whole(1), text("x"), boolean(7)}
	keepA, keepC := slices.Clone(a), slices.Clone(c)
	value.Rows(a[:2], c)
	if !slices.Equal(a, keepA) || !slices.Equal(c, keepC) {
		t.Error("what was handed in was changed")
	}
}

func TestP2_3Truth(t *testing.T) {
	for _, c := range []struct {
		v    api.Value
		want api.Verdict
	}{
		{boolean(1), api.Verdict{T: api.True}},
		{boolean(0), api.Verdict{T: api.False}},
		{boolean(2), api.Verdict{T: api.False}},
		{boolean(-1), api.Verdict{T: api.False}},
		{api.Value{}, api.Verdict{T: api.Unknown}},
		{api.Value{Kind: api.Null, Num: 1}, api.Verdict{T: api.Unknown}},
		{whole(1), api.Verdict{E: api.ErrType}},
		{whole(0), api.Verdict{E: api.ErrType}},
		{point(b(1)), api.Verdict{E: api.ErrType}},
		{text("true"), api.Verdict{E: api.ErrType}},
		{api.Value{Kind: 5, Num: 1}, api.Verdict{E: api.ErrType}},
		{api.Value{Kind: -1, Num: 1}, api.Verdict{E: api.ErrType}},
	} {
		if got := value.Truth(c.v); got != c.want {
			t.Errorf("Truth(%v) = %v", c.v, got)
		}
	}
}

func TestP2_3Of(t *testing.T) {
	for _, c := range []struct {
		t    int
		want api.Value
	}{{api.True, boolean(1)}, {api.False, boolean(0)}, {api.Unknown, api.Value{}}, {3, api.Value{}}, {-1, api.Value{}}, {math.MaxInt, api.Value{}}, {math.MinInt, api.Value{}}} {
		if got := value.Of(c.t); got != c.want {
			t.Errorf("Of(%d) = %v", c.t, got)
		}
	}
}

// operators is the six of them, each with its truths of a place ahead, the same place, and a place behind.
func operators() map[int][3]int {
	no, yes := api.False, api.True
	return map[int][3]int{
		api.OpEq: {no, yes, no},
		api.OpNe: {yes, no, yes},
		api.OpLt: {yes, no, no},
		api.OpLe: {yes, yes, no},
		api.OpGt: {no, no, yes},
		api.OpGe: {no, yes, yes},
	}
}

func TestP2_4Is(t *testing.T) {
	for _, list := range [][]api.Value{line(), wrong()} {
		for i, a := range list {
			for k, c := range list {
				for op, truths := range operators() {
					want := truths[sign(i, k)+1]
					if a.Kind == api.Null || c.Kind == api.Null {
						want = api.Unknown
					}
					if got := value.Is(op, a, c); got != want {
						t.Errorf("Is(%d, %v, %v) = %d", op, a, c, got)
					}
				}
			}
		}
	}
}

func TestP2_4OnePlace(t *testing.T) {
	for op, truths := range operators() {
		for _, c := range [][2]api.Value{{point(0), point(negZero)}, {point(real.NaN), point(-1)}, {point(real.NaN), point(real.NaN)}} {
			if got := value.Is(op, c[0], c[1]); got != truths[1] {
				t.Errorf("Is(%d, %v, %v) = %d", op, c[0], c[1], got)
			}
		}
	}
}

func TestP2_4Unknown(t *testing.T) {
	for _, op := range []int{0, -1, api.OpGe + 1, api.OpAnd, api.OpColumn, 23, math.MaxInt, math.MinInt} {
		for _, v := range line() {
			if got := value.Is(op, v, v); got != api.Unknown {
				t.Errorf("Is(%d, %v, %v) = %d", op, v, v, got)
			}
		}
	}
}

// answers is what every call answers of two values and a number.
type answers struct {
	check         api.Errno
	compare, rows int
	truth         api.Verdict
	of            api.Value
	is            int
}

func all(n int, a, c api.Value) answers {
	return answers{value.Check(a), value.Compare(a, c), value.Rows([]api.Value{a, c}, []api.Value{c, a}), value.Truth(a), value.Of(n), value.Is(n, a, c)}
}

func TestP1P2AnyArguments(t *testing.T) {
	list := append(line(), wrong()...)
	first := []answers{}
	for n := -1; n < 9; n++ {
		for _, a := range list {
			for _, c := range list {
				first = append(first, all(n, a, c))
			}
		}
	}
	// Going the other way round shows whether an answer hangs on the calls ahead of it.
	for n := 8; n >= -1; n-- {
		for _, a := range slices.Backward(list) {
			for _, c := range slices.Backward(list) {
				last := len(first) - 1
				if got := all(n, a, c); got != first[last] {
					t.Errorf("%d, %v, %v: %v, then %v", n, a, c, first[last], got)
				}
				first = first[:last]
			}
		}
	}
}
