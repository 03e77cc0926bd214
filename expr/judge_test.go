package expr_test

import (
	"bytes"
	"math"
	"math/big"

	"hasp/api"
)

// result is what a code answers.
type result struct {
	v api.Value
	e api.Errno
}

func fails(e api.Errno) result { return result{e: e} }

func is(v api.Value) result { return result{v: v} }

func whole(n int64) api.Value { return api.Value{Kind: api.Int, Num: n} }

func text(s string) api.Value { return api.Value{Kind: api.Text, Text: s} }

func null() api.Value { return api.Value{} }

func truth(holds bool) api.Value {
	if holds {
		return api.Value{Kind: api.Bool, Num: 1}
	}
	return api.Value{Kind: api.Bool}
}

func point(f float64) api.Value {
	if f != f {
		return api.Value{Kind: api.Real, Num: 0x7ff8000000000000}
	}
	return api.Value{Kind: api.Real, Num: int64(math.Float64bits(f))}
}

func floatOf(v api.Value) float64 { return math.Float64frombits(uint64(v.Num)) }

// takes tells how many operands layer 14 gives an operator.
func takes(op int) int {
	return map[int]int{
		api.OpEq: 2, api.OpNe: 2, api.OpLt: 2, api.OpLe: 2, api.OpGt: 2, api.OpGe: 2,
		api.OpAdd: 2, api.OpSub: 2, api.OpMul: 2, api.OpDiv: 2, api.OpMod: 2, api.OpCat: 2,
		api.OpNeg: 1, api.OpToInt: 1, api.OpToReal: 1, api.OpNot: 1, api.OpAnd: 2, api.OpOr: 2, api.OpIsNull: 1, api.OpNotNull: 1,
	}[op]
}

// judged gives what a code answers by the words of the chapters, for right values.
func judged(c api.Code, rows [][]api.Value) result {
	switch {
	case c.Op == api.OpConst:
		return is(c.Val)
	case c.Op == api.OpColumn:
		for tab, row := range rows {
			for col, v := range row {
				if tab == c.Tab && col == c.Col {
					return is(v)
				}
			}
		}
		return fails(api.ErrColumn)
	case takes(c.Op) == 0 || takes(c.Op) != len(c.Args):
		return fails(api.ErrType)
	}
	var args []result
	for _, a := range c.Args {
		args = append(args, judged(a, rows))
	}
	if c.Op == api.OpNot || c.Op == api.OpAnd || c.Op == api.OpOr {
		return logical(c.Op, args)
	}
	worst := api.OK
	for _, a := range args {
		if a.e != api.OK && (worst == api.OK || a.e < worst) {
			worst = a.e
		}
	}
	if worst != api.OK {
		return fails(worst)
	}
	first, last := args[0].v, args[len(args)-1].v
	switch {
	case c.Op == api.OpIsNull:
		return is(truth(first.Kind == api.Null))
	case c.Op == api.OpNotNull:
		return is(truth(first.Kind != api.Null))
	case first.Kind == api.Null || last.Kind == api.Null:
		return is(null())
	case first.Kind != last.Kind:
		return fails(api.ErrType)
	case c.Op <= api.OpGe:
		return compared(c.Op, first, last)
	}
	return computed(c.Op, first, last)
}

// logical puts verdicts together: F, U, T, or an error's number below 0.
func logical(op int, args []result) result {
	const f, u, t = 0, 1, 2
	var marks []int
	for _, a := range args {
		switch {
		case a.e != api.OK:
			marks = append(marks, -int(a.e))
		case a.v.Kind == api.Null:
			marks = append(marks, u)
		case a.v.Kind != api.Bool:
			marks = append(marks, -int(api.ErrType))
		default:
			marks = append(marks, 2*int(a.v.Num))
		}
	}
	a, b := marks[0], marks[len(marks)-1]
	if op == api.OpNot && a >= 0 {
		a = t - a
		b = a
	}
	if op == api.OpAnd && (a == f || b == f) {
		return is(truth(false))
	}
	if op == api.OpOr && (a == t || b == t) {
		return is(truth(true))
	}
	switch {
	case a < 0 && b < 0:
		return fails(api.Errno(-max(a, b)))
	case a < 0 || b < 0:
		return fails(api.Errno(-min(a, b)))
	case a == u || b == u:
		return is(null())
	}
	return is(truth(a == t))
}

// order tells how two values of one kind stand to each other.
func order(a, b api.Value) int {
	switch {
	case a.Kind == api.Text:
		return bytes.Compare([]byte(a.Text), []byte(b.Text))
	case a.Kind == api.Real:
		x, y := floatOf(a), floatOf(b)
		if x != x || y != y {
			return place(x != x, y != y)
		}
		return place(x > y, y > x)
	}
	return big.NewInt(a.Num).Cmp(big.NewInt(b.Num))
}

// place is 1, if only the first one holds, -1, if only the second one does.
func place(a, b bool) int {
	switch {
	case a && !b:
		return 1
	case b && !a:
		return -1
	}
	return 0
}

func compared(op int, a, b api.Value) result {
	n := order(a, b)
	return is(truth(map[int]bool{api.OpEq: n == 0, api.OpNe: n != 0, api.OpLt: n < 0, api.OpLe: n <= 0, api.OpGt: n > 0, api.OpGe: n >= 0}[op]))
}

// computed does arithmetic on values of one kind.
func computed(op int, a, b api.Value) result {
	switch {
	case op == api.OpCat && a.Kind == api.Text:
		if len(a.Text)+len(b.Text) > 200 {
			return fails(api.ErrLong)
		}
		return is(text(a.Text + b.Text))
	case op == api.OpCat || a.Kind == api.Text:
		return fails(api.ErrType)
	case op == api.OpToInt:
		return toInt(a)
	case a.Kind == api.Bool:
		return fails(api.ErrType)
	case op == api.OpToReal && a.Kind == api.Int:
		return is(point(float64(a.Num)))
	case op == api.OpToReal:
		return is(a)
	case a.Kind == api.Real:
		return reals(op, floatOf(a), floatOf(b))
	}
	return wholes(op, big.NewInt(a.Num), big.NewInt(b.Num))
}

func toInt(v api.Value) result {
	if v.Kind != api.Real {
		return is(whole(v.Num))
	}
	f := floatOf(v)
	if f != f || math.IsInf(f, 0) {
		return fails(api.ErrRange)
	}
	n, _ := big.NewFloat(f).Int(nil)
	if !n.IsInt64() {
		return fails(api.ErrRange)
	}
	return is(whole(n.Int64()))
}

func reals(op int, a, b float64) result {
	switch op {
	case api.OpAdd:
		return is(point(a + b))
	case api.OpSub:
		return is(point(a - b))
	case api.OpMul:
		return is(point(a * b))
	case api.OpDiv:
		return is(point(a / b))
	case api.OpNeg:
		return is(point(-a))
	}
	return fails(api.ErrType)
}

func wholes(op int, a, b *big.Int) result {
	n := new(big.Int)
	if (op == api.OpDiv || op == api.OpMod) && b.Sign() == 0 {
		return fails(api.ErrZero)
	}
	switch op {
	case api.OpAdd:
		n.Add(a, b)
	case api.OpSub:
		n.Sub(a, b)
	case api.OpMul:
		n.Mul(a, b)
	case api.OpDiv:
		n.Quo(a, b)
	case api.OpMod:
		n.Rem(a, b)
	case api.OpNeg:
		n.Neg(a)
	}
	if !n.IsInt64() {
		return fails(api.ErrOverflow)
	}
	return is(whole(n.Int64()))
}
