package expr_test

import (
	"math"
	"slices"
	"strings"
	"testing"

	"hasp/api"
	"hasp/bind"
	"hasp/expr"
	"hasp/parse"
)

func con(v api.Value) api.Code { return api.Code{Op: api.OpConst, Type: v.Kind, Val: v} }

func col(tab, place int) api.Code { return api.Code{Op: api.OpColumn, Tab: tab, Col: place} }

func do(op int, args ...api.Code) api.Code { return api.Code{Op: op, Args: args} }

// eval looks whether a code answers this.
func eval(t *testing.T, c api.Code, rows [][]api.Value, want result) {
	t.Helper()
	if v, e := expr.Eval(c, rows); v != want.v || e != want.e {
		t.Errorf("%+v over %v: %v, %d, not %v, %d", c, rows, v, e, want.v, want.e)
	}
}

// samples gives right values of all kinds.
func samples() []api.Value {
	return []api.Value{
		null(), truth(false), truth(true),
		whole(0), whole(1), whole(-1), whole(7), whole(math.MaxInt64), whole(math.MinInt64),
		point(0), point(math.Copysign(0, -1)), point(1), point(-2.5), point(1e300), point(9223372036854775808), point(math.Inf(1)), point(math.Inf(-1)), point(math.NaN()),
		text(""), text("a"), text("a\x00"), text("\xff"), text(strings.Repeat("x", 200)),
	}
}

// failing gives codes of which each has an error of its own, by the errors' numbers.
func failing() []api.Code {
	long := con(text(strings.Repeat("x", 101)))
	return []api.Code{
		do(api.OpCat, long, long),                               // 1
		do(api.OpToInt, con(point(math.NaN()))),                 // 10
		do(api.OpAdd),                                           // 30
		do(api.OpAdd, con(whole(math.MaxInt64)), con(whole(1))), // 31
		do(api.OpDiv, con(whole(1)), con(whole(0))),             // 32
		col(7, 7), // 161
	}
}

func TestP17_1Constants(t *testing.T) {
	for _, v := range samples() {
		eval(t, con(v), nil, is(v))
		// Neither the type nor operands nor places are looked at.
		eval(t, api.Code{Op: api.OpConst, Type: 9, Val: v, Args: failing(), Tab: -1, Col: -1}, nil, is(v))
	}
	for _, v := range []api.Value{{Kind: -1}, {Kind: 5, Num: 7, Text: "x"}, {Kind: api.Bool, Num: 2}, {Kind: api.Null, Num: 1}, {Kind: api.Text, Text: strings.Repeat("x", 300)}} {
		eval(t, con(v), nil, is(v))
	}
}

func TestP17_1Columns(t *testing.T) {
	rows := [][]api.Value{{whole(1), text("b")}, {}, {null(), truth(true), point(0.5)}, nil}
	for tab := -2; tab < 6; tab++ {
		for place := -2; place < 6; place++ {
			want := fails(api.ErrColumn)
			if tab >= 0 && tab < 4 && place >= 0 && place < len(rows[tab]) {
				want = is(rows[tab][place])
			}
			eval(t, col(tab, place), rows, want)
			eval(t, api.Code{Op: api.OpColumn, Type: 9, Tab: tab, Col: place, Val: whole(3), Args: failing()}, rows, want)
		}
	}
	for _, n := range []int{math.MinInt, math.MaxInt} {
		eval(t, col(n, 0), rows, fails(api.ErrColumn))
		eval(t, col(0, n), rows, fails(api.ErrColumn))
		eval(t, col(n, n), rows, fails(api.ErrColumn))
	}
	eval(t, col(0, 0), nil, fails(api.ErrColumn))
}

// TestP17_1Shape has operators that are none, and others with too few or too many operands.
func TestP17_1Shape(t *testing.T) {
	for op := -2; op < 30; op++ {
		for n := range 5 {
			for _, arg := range append(failing(), con(null()), con(truth(false)), con(whole(1))) {
				c := do(op, slices.Repeat([]api.Code{arg}, n)...)
				if op != api.OpConst && op != api.OpColumn && (n == 0 || n != takes(op)) {
					eval(t, c, nil, fails(api.ErrType))
				}
			}
		}
	}
	for _, op := range []int{math.MinInt, math.MaxInt} {
		eval(t, do(op, con(null()), con(null())), nil, fails(api.ErrType))
	}
}

// operands gives codes for all samples, and those that fail.
func operands() []api.Code {
	list := failing()
	for _, v := range samples() {
		list = append(list, con(v))
	}
	return list
}

func TestP17_1OneOperand(t *testing.T) {
	for op := api.OpEq; op <= api.OpNotNull; op++ {
		for _, a := range operands() {
			if takes(op) == 1 {
				eval(t, do(op, a), nil, judged(do(op, a), nil))
			}
		}
	}
}

func TestP17_1TwoOperands(t *testing.T) {
	for op := api.OpEq; op <= api.OpNotNull; op++ {
		for _, a := range operands() {
			for _, b := range operands() {
				if takes(op) == 2 {
					eval(t, do(op, a, b), nil, judged(do(op, a, b), nil))
				}
			}
		}
	}
}

// TestP17_1Worse holds that of two errors the lesser counts, on whichever side it stands.
func TestP17_1Worse(t *testing.T) {
	list := failing()
	codes := []api.Errno{api.ErrLong, api.ErrRange, api.ErrType, api.ErrOverflow, api.ErrZero, api.ErrColumn}
	for i, a := range list {
		eval(t, a, nil, fails(codes[i]))
		for op := api.OpEq; op <= api.OpNotNull; op++ {
			for k, b := range list {
				if takes(op) == 2 {
					eval(t, do(op, a, b), nil, fails(min(codes[i], codes[k])))
				}
			}
			if takes(op) == 1 {
				eval(t, do(op, a), nil, fails(codes[i]))
			}
		}
	}
}

func TestP17_1Logic(t *testing.T) {
	no, yes, unknown, zero, over := con(truth(false)), con(truth(true)), con(null()), failing()[4], failing()[3]
	for _, c := range []struct {
		code api.Code
		want result
	}{
		{do(api.OpAnd, no, zero), is(truth(false))}, {do(api.OpAnd, zero, no), is(truth(false))}, {do(api.OpAnd, yes, zero), fails(api.ErrZero)}, {do(api.OpAnd, unknown, zero), fails(api.ErrZero)}, {do(api.OpAnd, zero, over), fails(api.ErrOverflow)},
		{do(api.OpOr, yes, zero), is(truth(true))}, {do(api.OpOr, zero, yes), is(truth(true))}, {do(api.OpOr, no, zero), fails(api.ErrZero)}, {do(api.OpOr, zero, unknown), fails(api.ErrZero)},
		{do(api.OpNot, zero), fails(api.ErrZero)}, {do(api.OpNot, unknown), is(null())}, {do(api.OpNot, no), is(truth(true))}, {do(api.OpNot, do(api.OpNot, no)), is(truth(false))},
		{do(api.OpAnd, yes, unknown), is(null())}, {do(api.OpAnd, no, unknown), is(truth(false))}, {do(api.OpOr, unknown, yes), is(truth(true))}, {do(api.OpOr, unknown, no), is(null())}, {do(api.OpAnd, yes, yes), is(truth(true))}, {do(api.OpOr, no, no), is(truth(false))},
		{do(api.OpAnd, no, con(whole(1))), is(truth(false))}, {do(api.OpAnd, yes, con(text(""))), fails(api.ErrType)}, {do(api.OpOr, con(point(0)), yes), is(truth(true))}, {do(api.OpNot, con(whole(0))), fails(api.ErrType)}, {do(api.OpAnd, con(whole(0)), over), fails(api.ErrType)},
		{do(api.OpIsNull, zero), fails(api.ErrZero)}, {do(api.OpNotNull, zero), fails(api.ErrZero)}, {do(api.OpIsNull, do(api.OpAnd, no, zero)), is(truth(false))}, {do(api.OpEq, do(api.OpOr, zero, yes), no), is(truth(false))},
	} {
		eval(t, c.code, nil, c.want)
	}
}

// TestP17_1Examples reads texts and evaluates them.
func TestP17_1Examples(t *testing.T) {
	for _, c := range []struct {
		s    string
		want result
	}{
		{"FALSE AND 1 / 0 = 1", is(truth(false))}, {"NULL AND 1 / 0 = 1", fails(api.ErrZero)}, {"1 / 0 = 9223372036854775807 + 1", fails(api.ErrOverflow)},
		{"a = 5 AND b = 'x'", is(truth(true))}, {"a * 2 - 3 % 2", is(whole(9))}, {"INT(c) + a", is(whole(3))}, {"REAL(a) / 0.0", is(point(math.Inf(1)))}, {"c < NAN", is(truth(true))}, {"b || b || 'y'", is(text("xxy"))}, {"d IS NULL", is(truth(true))}, {"d = TRUE OR a > 4", is(truth(true))}, {"d = TRUE AND a > 4", is(null())}, {"NOT (d OR a < 4)", is(null())}, {"- - a", is(whole(5))}, {"a <> NULL", is(null())},
	} {
		eval(t, bound(t, c.s), [][]api.Value{{whole(5), text("x"), point(-2.5), null()}}, c.want)
	}
}

// table is t, with a column of each type.
func table() api.Table {
	return api.Table{Name: "t", Cols: []api.Column{{Name: "a", Type: api.Int}, {Name: "b", Type: api.Text}, {Name: "c", Type: api.Real}, {Name: "d", Type: api.Bool}}}
}

// bound gives the code of an expression over t.
func bound(t *testing.T, s string) api.Code {
	t.Helper()
	st, e := parse.Parse("SELECT " + s + " FROM t")
	if e != api.OK {
		t.Fatalf("%s: %d", s, e)
	}
	x, e := bind.Bind(st, []api.Table{table()})
	if e != api.OK {
		t.Fatalf("%s: %d", s, e)
	}
	return x.Items[0]
}

func TestP17_2Test(t *testing.T) {
	for _, c := range operands() {
		v, e := expr.Eval(c, nil)
		want := api.Verdict{E: e}
		switch {
		case e != api.OK:
		case v.Kind == api.Null:
			want.T = api.Unknown
		case v.Kind == api.Bool && v.Num == 1:
			want.T = api.True
		case v.Kind != api.Bool:
			want.E = api.ErrType
		}
		if got := expr.Test(c, nil); got != want {
			t.Errorf("%+v: %v, not %v", c, got, want)
		}
	}
	rows := [][]api.Value{{null(), truth(true), truth(false), whole(1)}}
	for place, want := range []api.Verdict{{T: api.Unknown}, {T: api.True}, {T: api.False}, {E: api.ErrType}, {E: api.ErrColumn}} {
		if got := expr.Test(col(0, place), rows); got != want {
			t.Errorf("column %d: %v, not %v", place, got, want)
		}
	}
	if got := expr.Test(do(api.OpAnd, con(whole(1)), con(truth(false))), nil); got != (api.Verdict{T: api.False}) {
		t.Errorf("false beside an error: %v", got)
	}
}

// row looks whether these codes answer these values.
func row(t *testing.T, list []api.Code, rows [][]api.Value, want []api.Value, code api.Errno) {
	t.Helper()
	if got, e := expr.Row(list, rows); e != code || !slices.Equal(got, want) {
		t.Errorf("%+v: %v, %d, not %v, %d", list, got, e, want, code)
	}
}

func TestP17_3Row(t *testing.T) {
	rows := [][]api.Value{{whole(5), text("x")}, {point(2)}}
	row(t, nil, rows, nil, api.OK)
	row(t, []api.Code{}, nil, nil, api.OK)
	row(t, []api.Code{col(1, 0), con(null()), do(api.OpNeg, col(0, 0)), col(0, 1)}, rows, []api.Value{point(2), null(), whole(-5), text("x")}, api.OK)
	list := failing()
	codes := []api.Errno{api.ErrLong, api.ErrRange, api.ErrType, api.ErrOverflow, api.ErrZero, api.ErrColumn}
	for i, a := range list {
		row(t, []api.Code{a}, nil, nil, codes[i])
		row(t, []api.Code{con(truth(false)), a, con(whole(1))}, nil, nil, codes[i])
		for k, b := range list {
			row(t, []api.Code{con(null()), a, con(whole(1)), b}, nil, nil, min(codes[i], codes[k]))
		}
	}
	slices.Reverse(list)
	row(t, list, nil, nil, api.ErrLong)
	// What isn't known or false keeps no error out of a row.
	row(t, []api.Code{con(truth(false)), con(null()), failing()[4]}, nil, nil, api.ErrZero)
}
