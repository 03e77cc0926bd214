package bind_test

import (
	"fmt"
	"math"
	"strings"
	"testing"

	"hasp/api"
	"hasp/bind"
)

func bitsOf(f float64) int64 { return int64(math.Float64bits(f)) }

// kinds is a table with a column of each type, named as the types' words begin, whose places are the types less one.
func kinds() []api.Table {
	return []api.Table{{Name: "t", Cols: []api.Column{{Name: "b", Type: api.Bool}, {Name: "i", Type: api.Int}, {Name: "r", Type: api.Real}, {Name: "t", Type: api.Text}}}}
}

// operand has what of each type can stand in an expression over kinds.
var operand = []string{"NULL", "b", "i", "r", "t"}

// item gives the code of an expression over kinds.
func item(t *testing.T, s string) (api.Code, api.Errno) {
	t.Helper()
	x, e := bind.Bind(read(t, "SELECT "+s+" FROM t"), kinds())
	if e != api.OK {
		return api.Code{}, e
	}
	return x.Items[0], e
}

// answered has the types that operators answer, by the operands' types: N, B, I, R, T; - where they take no such.
var answered = []struct {
	op   int
	form string
	want string // of two operands: the first one Null, then Bool, Int, Real, Text; the second one in the same order
}{
	{api.OpEq, "%s = %s", "BBBBB BB--- B-B-- B--B- B---B"}, {api.OpNe, "%s <> %s", "BBBBB BB--- B-B-- B--B- B---B"},
	{api.OpLt, "%s < %s", "BBBBB BB--- B-B-- B--B- B---B"}, {api.OpLe, "%s <= %s", "BBBBB BB--- B-B-- B--B- B---B"},
	{api.OpGt, "%s > %s", "BBBBB BB--- B-B-- B--B- B---B"}, {api.OpGe, "%s >= %s", "BBBBB BB--- B-B-- B--B- B---B"},
	{api.OpAdd, "%s + %s", "--IR- ----- I-I-- R--R- -----"}, {api.OpSub, "%s - %s", "--IR- ----- I-I-- R--R- -----"},
	{api.OpMul, "%s * %s", "--IR- ----- I-I-- R--R- -----"}, {api.OpDiv, "%s / %s", "--IR- ----- I-I-- R--R- -----"},
	{api.OpMod, "%s %% %s", "I-I-- ----- I-I-- ----- -----"}, {api.OpCat, "%s || %s", "T---T ----- ----- ----- T---T"},
	{api.OpAnd, "%s AND %s", "BB--- BB--- ----- ----- -----"}, {api.OpOr, "%s OR %s", "BB--- BB--- ----- ----- -----"},
	{api.OpNeg, "- %s", "--IR-"}, {api.OpToInt, "INT(%s)", "IIII-"}, {api.OpToReal, "REAL(%s)", "R-RR-"},
	{api.OpNot, "NOT %s", "BB---"}, {api.OpIsNull, "%s IS NULL", "BBBBB"}, {api.OpNotNull, "%s IS NOT NULL", "BBBBB"},
}

// leaf gives the code of an operand of this type.
func leaf(kind int) api.Code {
	if kind == api.Null {
		return api.Code{Op: api.OpConst}
	}
	return api.Code{Op: api.OpColumn, Type: kind, Col: kind - 1}
}

func TestP16_1Types(t *testing.T) {
	for _, c := range answered {
		want := strings.ReplaceAll(c.want, " ", "")
		for n, letter := range []byte(want) {
			types, texts := []int{n}, []any{operand[n%5]}
			if len(want) == 25 {
				types, texts = []int{n / 5, n % 5}, []any{operand[n/5], operand[n%5]}
			}
			code := api.Code{Op: c.op, Type: strings.IndexByte("NBIRT", letter)}
			for _, kind := range types {
				code.Args = append(code.Args, leaf(kind))
			}
			s, e := fmt.Sprintf(c.form, texts...), api.OK
			if letter == '-' {
				code, e = api.Code{}, api.ErrType
			}
			if got, met := item(t, s); met != e || !same(got, code) {
				t.Errorf("%s: %+v, %d, not %+v, %d", s, got, met, code, e)
			}
		}
	}
}

func TestP16_1Constants(t *testing.T) {
	long := strings.Repeat("x", 200)
	for _, c := range []struct {
		s    string
		want api.Value
	}{
		{"NULL", api.Value{}}, {"FALSE", api.Value{Kind: api.Bool}}, {"TRUE", api.Value{Kind: api.Bool, Num: 1}},
		{"0", api.Value{Kind: api.Int}}, {"9223372036854775807", api.Value{Kind: api.Int, Num: math.MaxInt64}},
		{"0.0", api.Value{Kind: api.Real}}, {"0.5", api.Value{Kind: api.Real, Num: bitsOf(0.5)}}, {"7.50", api.Value{Kind: api.Real, Num: bitsOf(7.5)}}, {"0.1", api.Value{Kind: api.Real, Num: bitsOf(0.1)}},
		{"0.00000000000001", api.Value{Kind: api.Real, Num: bitsOf(1e-14)}}, {"99999999999999.9", api.Value{Kind: api.Real, Num: bitsOf(99999999999999.9)}}, {"3.14159265358979", api.Value{Kind: api.Real, Num: bitsOf(3.14159265358979)}},
		{"NAN", api.Value{Kind: api.Real, Num: 0x7ff8000000000000}}, {"INFINITY", api.Value{Kind: api.Real, Num: 0x7ff0000000000000}},
		{"''", api.Value{Kind: api.Text}}, {"'it''s'", api.Value{Kind: api.Text, Text: "it's"}}, {"'" + long + "'", api.Value{Kind: api.Text, Text: long}},
	} {
		code, e := item(t, c.s)
		if e != api.OK || !same(code, api.Code{Op: api.OpConst, Type: c.want.Kind, Val: c.want}) {
			t.Errorf("%s: %+v, %d", c.s, code, e)
		}
	}
}

// TestP16_1Left holds that operands are gone through ahead of what is done with them, the left one first.
func TestP16_1Left(t *testing.T) {
	for _, c := range []struct {
		s    string
		code api.Errno
	}{
		{"z = (i + b)", api.ErrColumn}, {"(i + b) = z", api.ErrType}, {"i + z", api.ErrColumn}, {"z + b", api.ErrColumn}, {"b + z", api.ErrColumn},
		{"NOT (i AND z)", api.ErrColumn}, {"i AND z", api.ErrColumn}, {"(i AND i) OR z", api.ErrType}, {"- - t.z", api.ErrColumn}, {"- - b", api.ErrType}, {"INT(t) + z", api.ErrType}, {"INT(z || t) + (t + t)", api.ErrColumn},
		{"(NULL + NULL) IS NULL", api.ErrType}, {"(NULL - NULL) = i", api.ErrType}, {"NULL % NULL + i", api.OK}, {"NULL || NULL || t", api.OK}, {"(NULL || NULL) = i", api.ErrType}, {"(NULL = NULL) AND b", api.OK}, {"INT(NULL) + r", api.ErrType}, {"REAL(NULL) + r", api.OK},
		{"(i = i) = b", api.OK}, {"(i = i) = i", api.ErrType}, {"(i IS NULL) = (t IS NOT NULL)", api.OK},
	} {
		if _, e := item(t, c.s); e != c.code {
			t.Errorf("%s: %d, not %d", c.s, e, c.code)
		}
	}
}

// columnCase is a column in a query, and what it is.
type columnCase struct {
	s        string
	tab, col int
	code     api.Errno
}

func TestP16_1Columns(t *testing.T) {
	for _, c := range []columnCase{
		{"SELECT a FROM t", 0, 0, api.OK}, {"SELECT t.d FROM t", 0, 3, api.OK}, {"SELECT x.d FROM t AS x", 0, 3, api.OK}, {"SELECT t.d FROM t AS x", 0, 0, api.ErrColumn}, {"SELECT t.e FROM t", 0, 0, api.ErrColumn}, {"SELECT e FROM t", 0, 0, api.ErrColumn}, {"SELECT u.a FROM t", 0, 0, api.ErrColumn}, {"SELECT t FROM t", 0, 0, api.ErrColumn},
		{"SELECT a FROM t JOIN u ON TRUE", 0, 0, api.ErrAmbiguous}, {"SELECT u.a FROM t JOIN u ON TRUE", 1, 0, api.OK}, {"SELECT e FROM t JOIN u ON TRUE", 1, 1, api.OK}, {"SELECT d FROM t JOIN u ON TRUE", 0, 3, api.OK}, {"SELECT u.d FROM t JOIN u ON TRUE", 0, 0, api.ErrColumn}, {"SELECT z FROM t JOIN u ON TRUE", 0, 0, api.ErrColumn},
		{"SELECT a FROM t AS x JOIN t AS y ON TRUE", 0, 0, api.ErrAmbiguous}, {"SELECT y.c FROM t AS x JOIN t AS y ON TRUE", 1, 2, api.OK}, {"SELECT u.b FROM u AS t JOIN t AS u ON TRUE", 1, 1, api.OK}, {"SELECT u.e FROM u AS t JOIN t AS u ON TRUE", 0, 0, api.ErrColumn}, {"SELECT t.e FROM u AS t JOIN t AS u ON TRUE", 0, 1, api.OK},
		{"SELECT f FROM t JOIN u ON TRUE JOIN w ON TRUE JOIN v ON TRUE", 3, 0, api.OK}, {"SELECT w.a FROM t JOIN u ON TRUE JOIN w ON TRUE JOIN v ON TRUE", 2, 0, api.OK}, {"SELECT a FROM v JOIN t ON TRUE JOIN u ON TRUE JOIN w ON TRUE", 0, 0, api.ErrAmbiguous},
		{"SELECT tbl FROM sysindexes", 0, 1, api.OK}, {"SELECT required FROM systables JOIN syscolumns ON TRUE", 1, 4, api.OK}, {"SELECT name FROM systables JOIN syscolumns ON TRUE", 0, 0, api.ErrAmbiguous},
	} {
		x, e := bind.Bind(read(t, c.s), sample())
		if e != c.code {
			t.Errorf("%s: %d, not %d", c.s, e, c.code)
		}
		if e == api.OK && (len(x.Items) != 1 || x.Items[0].Op != api.OpColumn || x.Items[0].Tab != c.tab || x.Items[0].Col != c.col) {
			t.Errorf("%s: %+v", c.s, x.Items)
		}
	}
}

// TestP16_1Scopes holds which sources a condition ON, the items, WHERE and the sorts are over.
func TestP16_1Scopes(t *testing.T) {
	for _, c := range []struct {
		s    string
		code api.Errno
	}{
		{"SELECT 1 FROM t AS x JOIN u AS y ON z.f = 'x' JOIN v AS z ON TRUE", api.ErrColumn}, {"SELECT 1 FROM t AS x JOIN u AS y ON f = 'x' JOIN v AS z ON TRUE", api.ErrColumn}, {"SELECT 1 FROM t AS x JOIN u AS y ON TRUE JOIN v AS z ON z.f = 'x'", api.OK}, {"SELECT 1 FROM t AS x JOIN u AS y ON TRUE JOIN v AS z ON f = b AND e = c", api.OK},
		// A column that is ambiguous over all sources isn't over the first ones.
		{"SELECT 1 FROM t JOIN v ON a = 1 JOIN u ON TRUE", api.OK}, {"SELECT 1 FROM t JOIN v ON TRUE JOIN u ON a = 1", api.ErrAmbiguous}, {"SELECT a FROM t JOIN v ON a = 1 JOIN u ON TRUE", api.ErrAmbiguous}, {"SELECT 1 FROM t JOIN v ON TRUE JOIN u ON TRUE WHERE a = 1", api.ErrAmbiguous}, {"SELECT 1 FROM t JOIN v ON TRUE JOIN u ON TRUE ORDER BY a", api.ErrAmbiguous},
		{"SELECT e FROM t JOIN u ON TRUE WHERE e > c ORDER BY e", api.OK}, {"SELECT 1 FROM t JOIN u ON TRUE JOIN v ON TRUE JOIN w ON h WHERE h ORDER BY h", api.OK}, {"SELECT 1 FROM t JOIN u ON TRUE JOIN v ON h JOIN w ON h", api.ErrColumn},
	} {
		if _, e := bind.Bind(read(t, c.s), sample()); e != c.code {
			t.Errorf("%s: %d, not %d", c.s, e, c.code)
		}
	}
}
