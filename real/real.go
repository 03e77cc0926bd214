// Package real is layer 1: see shared/doc/01-real.md.
package real

import (
	"cmp"
	"math"

	"hasp/api"
)

// NaN is the one form of what is no number.
const NaN int64 = 0x7ff8000000000000

// The greatest decimal that is read: both parts are whole numbers below 2^53 then, so their quotient is rounded but once.
const (
	maxDigits = 999999999999999
	maxScale  = 15
)

// Canon gives the one form of a number.
func Canon(a int64) int64 { return bits(float(a)) }

// Order tells which of two numbers comes first: -1, 0, 1.
func Order(a, b int64) int {
	x, y := float(a), float(b)
	switch {
	case math.IsNaN(x) && math.IsNaN(y):
		return 0
	case math.IsNaN(x):
		return 1
	case math.IsNaN(y):
		return -1
	}
	return cmp.Compare(x, y)
}

// Add gives a sum.
func Add(a, b int64) int64 { return bits(float(a) + float(b)) }

// Sub gives a difference.
func Sub(a, b int64) int64 { return bits(float(a) - float(b)) }

// Mul gives a product. The conversion keeps a machine from rounding it together with a sum that it goes into.
func Mul(a, b int64) int64 { return bits(float64(float(a) * float(b))) }

// Div gives a quotient.
func Div(a, b int64) int64 { return bits(float(a) / float(b)) }

// Neg gives a number with the other sign.
func Neg(a int64) int64 { return bits(-float(a)) }

// OfInt gives the number next to a whole one.
func OfInt(n int64) int64 { return bits(float64(n)) }

// ToInt gives the whole part of a number.
func ToInt(a int64) (int64, api.Errno) {
	x := float(a)
	// No number lies between -2^63 - 1 and -2^63, nor between 2^63 - 1 and 2^63.
	if math.IsNaN(x) || x < -1<<63 || x >= 1<<63 {
		return 0, api.ErrRange
	}
	return int64(x), api.OK
}

// OfDecimal gives the number next to a decimal one.
func OfDecimal(m int64, scale int) (int64, api.Errno) {
	if m < 0 || m > maxDigits || scale < 0 || scale > maxScale {
		return 0, api.ErrNumber
	}
	return bits(float64(m) / power(scale)), api.OK
}

// power gives 10 to the power of scale, which is exact up to maxScale.
func power(scale int) float64 {
	p := 1.0
	for range scale {
		p *= 10
	}
	return p
}

// float gives the number that these bits tell.
func float(a int64) float64 { return math.Float64frombits(uint64(a)) }

// bits gives a number's one form: what the machine makes of a NaN's sign and fraction isn't the same everywhere.
func bits(x float64) int64 {
	if math.IsNaN(x) {
		return NaN
	}
	return int64(math.Float64bits(x))
}
