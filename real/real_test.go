package real_test

import (
	"math"
	"math/big"
	"slices"
	"testing"

	"hasp/api"
	"hasp/real"
)

const (
	negZero int64 = math.MinInt64
	inf     int64 = 0x7ff0000000000000
	negInf  int64 = -0x0010000000000000
)

// Every NaN here but the last one is not in its one form.
var nans = []int64{-1, 0x7ff0000000000001, 0x7fffffffffffffff, -0x000fffffffffffff, -0x0008000000000000, real.NaN}

func b(f float64) int64 { return int64(math.Float64bits(f)) }

func f(a int64) float64 { return math.Float64frombits(uint64(a)) }

func isNaN(a int64) bool { return slices.Contains(nans, a) }

// line is numbers in their order, no two at one place.
func line() []int64 {
	return []int64{
		negInf, b(-math.MaxFloat64), b(-1 << 63), b(-1e10), b(-2), b(-1), b(-0.5), b(-2.2250738585072014e-308), b(-5e-324),
		0, b(5e-324), b(2.2250738585072009e-308), b(2.2250738585072014e-308), b(0.5), b(1), b(1.0000000000000002), b(2), b(1e10), b(1 << 63), b(math.MaxFloat64), inf,
	}
}

func edges() []int64 { return append(append(line(), negZero), nans...) }

// some gives bits that have no order in them, the same ones in every run.
func some(n int) []int64 {
	list, x := []int64{}, uint64(0x9e3779b97f4a7c15)
	for range n {
		x ^= x << 13
		x ^= x >> 7
		x ^= x << 17
		list = append(list, int64(x))
	}
	return list
}

func TestP1_1Canon(t *testing.T) {
	for _, a := range nans {
		if got := real.Canon(a); got != 0x7ff8000000000000 {
			t.Errorf("Canon(%#x) = %#x", uint64(a), uint64(got))
		}
	}
	for _, a := range append(line(), negZero) {
		if got := real.Canon(a); got != a {
			t.Errorf("Canon(%#x) = %#x", uint64(a), uint64(got))
		}
	}
}

func TestP1_1Order(t *testing.T) {
	list := line()
	for i, a := range list {
		for k, c := range list {
			want := 0
			if i < k {
				want = -1
			} else if i > k {
				want = 1
			}
			if got := real.Order(a, c); got != want {
				t.Errorf("Order(%v, %v) = %d", f(a), f(c), got)
			}
		}
		for _, n := range nans {
			if real.Order(a, n) != -1 || real.Order(n, a) != 1 {
				t.Errorf("%v isn't ahead of the NaN %#x", f(a), uint64(n))
			}
		}
		if real.Order(negZero, a) != real.Order(0, a) || real.Order(a, negZero) != real.Order(a, 0) {
			t.Errorf("-0 and 0 are at two places beside %v", f(a))
		}
	}
	for _, m := range nans {
		for _, n := range nans {
			if real.Order(m, n) != 0 {
				t.Errorf("Order(%#x, %#x) isn't 0", uint64(m), uint64(n))
			}
		}
	}
	if real.Order(negZero, negZero) != 0 || real.Order(negZero, 0) != 0 || real.Order(0, negZero) != 0 {
		t.Error("-0 and 0 are at two places")
	}
}

func TestP1_2Edges(t *testing.T) {
	one, big := b(1), b(math.MaxFloat64)
	cases := []struct {
		name      string
		got, want int64
	}{
		{"0.1 + 0.2", real.Add(b(0.1), b(0.2)), b(0.30000000000000004)},
		{"a tie to the even one below", real.Add(b(1<<53), one), b(1 << 53)},
		{"a tie to the even one above", real.Add(b(1<<53+2), one), b(1<<53 + 4)},
		{"inf + inf", real.Add(inf, inf), inf},
		{"inf + -inf", real.Add(inf, negInf), real.NaN},
		{"-0 + 0", real.Add(negZero, 0), 0},
		{"-0 + -0", real.Add(negZero, negZero), negZero},
		{"max + max", real.Add(big, big), inf},
		{"1 - 1", real.Sub(one, one), 0},
		{"-0 - 0", real.Sub(negZero, 0), negZero},
		{"0 - 0", real.Sub(0, 0), 0},
		{"inf - inf", real.Sub(inf, inf), real.NaN},
		{"-inf - inf", real.Sub(negInf, inf), negInf},
		{"5 - 7", real.Sub(b(5), b(7)), b(-2)},
		{"-0 * 5", real.Mul(negZero, b(5)), negZero},
		{"-0 * -5", real.Mul(negZero, b(-5)), 0},
		{"0 * inf", real.Mul(0, inf), real.NaN},
		{"inf * -1", real.Mul(inf, b(-1)), negInf},
		{"max * -2", real.Mul(big, b(-2)), negInf},
		{"least * 0.5", real.Mul(b(5e-324), b(0.5)), 0},
		{"least * 0.75", real.Mul(b(5e-324), b(0.75)), b(5e-324)},
		{"least * -0.5", real.Mul(b(5e-324), b(-0.5)), negZero},
		{"1 / 0", real.Div(one, 0), inf},
		{"1 / -0", real.Div(one, negZero), negInf},
		{"-1 / 0", real.Div(b(-1), 0), negInf},
		{"0 / 0", real.Div(0, 0), real.NaN},
		{"inf / inf", real.Div(inf, negInf), real.NaN},
		{"1 / -inf", real.Div(one, negInf), negZero},
		{"-inf / 2", real.Div(negInf, b(2)), negInf},
		{"1 / 3", real.Div(one, b(3)), b(0.3333333333333333)},
		{"- 0", real.Neg(0), negZero},
		{"- -0", real.Neg(negZero), 0},
		{"- inf", real.Neg(inf), negInf},
		{"- 1.5", real.Neg(b(1.5)), b(-1.5)},
		{"- least", real.Neg(b(5e-324)), b(-5e-324)},
	}
	for _, c := range cases {
		if c.got != c.want {
			t.Errorf("%s: %#x, not %#x", c.name, uint64(c.got), uint64(c.want))
		}
	}
}

func TestP1_2NaNs(t *testing.T) {
	for _, n := range nans {
		if real.Neg(n) != real.NaN {
			t.Errorf("Neg(%#x) = %#x", uint64(n), uint64(real.Neg(n)))
		}
		for _, a := range edges() {
			for i, got := range []int64{real.Add(n, a), real.Add(a, n), real.Sub(n, a), real.Sub(a, n), real.Mul(n, a), real.Mul(a, n), real.Div(n, a), real.Div(a, n)} {
				if got != real.NaN {
					t.Errorf("%d: of %#x and %#x: %#x", i, uint64(n), uint64(a), uint64(got))
				}
			}
		}
	}
}

// nearest rounds an exact result, which has this sign if it is or becomes 0.
func nearest(exact *big.Rat, minus bool) int64 {
	x, _ := exact.Float64()
	if x == 0 && minus {
		return negZero
	}
	return b(x)
}

func checkExact(t *testing.T, a, c int64) {
	minusA, minusC := a < 0, c < 0
	x, y := new(big.Rat).SetFloat64(f(a)), new(big.Rat).SetFloat64(f(c))
	got := []int64{real.Add(a, c), real.Sub(a, c), real.Mul(a, c)}
	want := []int64{
		nearest(new(big.Rat).Add(x, y), minusA && minusC),
		nearest(new(big.Rat).Sub(x, y), minusA && !minusC),
		nearest(new(big.Rat).Mul(x, y), minusA != minusC),
	}
	if y.Sign() != 0 {
		got = append(got, real.Div(a, c))
		want = append(want, nearest(new(big.Rat).Quo(x, y), minusA != minusC))
	}
	if !slices.Equal(got, want) {
		t.Errorf("of %v and %v: %x, not %x", f(a), f(c), got, want)
	}
}

func TestP1_2Exact(t *testing.T) {
	finite := func(a int64) bool { return !math.IsNaN(f(a)) && !math.IsInf(f(a), 0) }
	for _, a := range edges() {
		for _, c := range edges() {
			if finite(a) && finite(c) {
				checkExact(t, a, c)
			}
		}
	}
	list := some(4000)
	for i, a := range list[1:] {
		// The second number is near to the first one in half of the cases: else hardly a sum would have to be rounded.
		c := list[i]
		if i%2 == 0 {
			c = a ^ c>>8
		}
		if finite(a) && finite(c) {
			checkExact(t, a, c)
		}
	}
}

func TestP1_3OfInt(t *testing.T) {
	list := append(some(500), 0, 1, -1, -7, 1<<53-1, 1<<53, 1<<53+1, 1<<53+2, 1<<53+3, -(1<<53 + 1), -(1<<53 + 3), 1<<62+1, math.MaxInt64, math.MaxInt64-511, math.MaxInt64-512, math.MinInt64, math.MinInt64+1)
	for _, n := range list {
		want := nearest(new(big.Rat).SetInt64(n), false)
		if got := real.OfInt(n); got != want {
			t.Errorf("OfInt(%d) = %#x, not %#x", n, uint64(got), uint64(want))
		}
	}
	if real.OfInt(1<<53+1) != b(1<<53) || real.OfInt(1<<53+3) != b(1<<53+4) || real.OfInt(math.MaxInt64) != b(1<<63) {
		t.Error("ties, and the greatest number")
	}
}

func TestP1_3ToInt(t *testing.T) {
	for _, c := range []struct {
		a, want int64
		e       api.Errno
	}{
		{0, 0, api.OK},
		{negZero, 0, api.OK},
		{b(1.9), 1, api.OK},
		{b(-1.9), -1, api.OK},
		{b(0.9999999999999999), 0, api.OK},
		{b(-5e-324), 0, api.OK},
		{b(1<<53 + 2), 1<<53 + 2, api.OK},
		{b(9223372036854774784), 9223372036854774784, api.OK},
		{b(-9223372036854774784), -9223372036854774784, api.OK},
		{b(-1 << 63), math.MinInt64, api.OK},
		{b(1 << 63), 0, api.ErrRange},
		{b(-9223372036854777856), 0, api.ErrRange},
		{b(math.MaxFloat64), 0, api.ErrRange},
		{b(-math.MaxFloat64), 0, api.ErrRange},
		{inf, 0, api.ErrRange},
		{negInf, 0, api.ErrRange},
	} {
		if n, e := real.ToInt(c.a); n != c.want || e != c.e {
			t.Errorf("ToInt(%v) = %d, %v", f(c.a), n, e)
		}
	}
	for _, a := range nans {
		if n, e := real.ToInt(a); n != 0 || e != api.ErrRange {
			t.Errorf("ToInt(%#x) = %d, %v", uint64(a), n, e)
		}
	}
}

func TestP1_4Nearest(t *testing.T) {
	digits := []int64{0, 1, 2, 3, 5, 7, 10, 125, 123456, 999999999999998, 999999999999999, 450359962737049, 900719925474099}
	for _, n := range some(300) {
		digits = append(digits, int64(uint64(n)%1000000000000000))
	}
	for _, m := range digits {
		ten := big.NewInt(1)
		for scale := 0; scale <= 15; scale++ {
			want := nearest(new(big.Rat).SetFrac(big.NewInt(m), ten), false)
			if a, e := real.OfDecimal(m, scale); a != want || e != api.OK {
				t.Errorf("OfDecimal(%d, %d) = %#x, %v, not %#x", m, scale, uint64(a), e, uint64(want))
			}
			ten = new(big.Int).Mul(ten, big.NewInt(10))
		}
	}
	if a, _ := real.OfDecimal(125, 1); a != 0x4029000000000000 {
		t.Errorf("12.5 = %#x", uint64(a))
	}
}

func TestP1_4Wrong(t *testing.T) {
	for _, c := range []struct {
		m     int64
		scale int
	}{{-1, 0}, {math.MinInt64, 5}, {1000000000000000, 0}, {1000000000000000, 15}, {math.MaxInt64, 1}, {1, -1}, {1, 16}, {0, 16}, {0, -1}, {1, math.MaxInt}, {1, math.MinInt}, {-1, 16}} {
		if a, e := real.OfDecimal(c.m, c.scale); a != 0 || e != api.ErrNumber {
			t.Errorf("OfDecimal(%d, %d) = %#x, %v", c.m, c.scale, uint64(a), e)
		}
	}
}

// all gives the answers of every call over two numbers.
func all(a, c int64) []int64 {
	whole, e1 := real.ToInt(a)
	decimal, e2 := real.OfDecimal(a, int(c))
	return []int64{
		real.Canon(a), int64(real.Order(a, c)), real.Add(a, c), real.Sub(a, c), real.Mul(a, c), real.Div(a, c), real.Neg(a), real.OfInt(a),
		whole, int64(e1), decimal, int64(e2),
	}
}

func TestP1P2AnyArguments(t *testing.T) {
	list := append(append(edges(), some(50)...), -3, 1, 15, 16, 999999999999999, 1000000000000000)
	first := [][]int64{}
	for _, a := range list {
		for _, c := range list {
			first = append(first, all(a, c))
		}
	}
	// Going the other way round shows whether an answer hangs on the calls ahead of it.
	for _, a := range slices.Backward(list) {
		for _, c := range slices.Backward(list) {
			last := len(first) - 1
			if got := all(a, c); !slices.Equal(got, first[last]) {
				t.Errorf("of %#x and %#x: %x, then %x", uint64(a), uint64(c), first[last], got)
			}
			first = first[:last]
		}
	}
}

func TestAnswersInOneForm(t *testing.T) {
	for _, a := range append(edges(), some(200)...) {
		for _, c := range edges() {
			for i, got := range all(a, c)[2:8] {
				if isNaN(got) && got != real.NaN || real.Canon(got) != got {
					t.Errorf("%d: of %#x and %#x: %#x", i, uint64(a), uint64(c), uint64(got))
				}
			}
		}
	}
}
