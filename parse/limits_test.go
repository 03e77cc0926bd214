package parse_test

import (
	"math"
	"strings"
	"testing"

	"hasp/api"
	"hasp/parse"
)

// lists has for each kind of list what stands ahead of it, between its elements, behind it, an element, and how many it may have.
var lists = []struct {
	name, ahead, between, behind, element string
	most                                  int
}{
	{"columns", "CREATE TABLE t (", ",", ")", "a INT", 16},
	{"required columns", "CREATE TABLE t (", ",", ")", "a INT NOT NULL", 16},
	{"columns of an index", "CREATE INDEX i ON t (", ",", ")", "a", 4},
	{"columns of a unique index", "CREATE UNIQUE INDEX i ON t (", ",", ")", "a", 4},
	{"rows", "INSERT INTO t VALUES ", ",", "", "(1,2)", 50},
	{"expressions", "INSERT INTO t VALUES (", ",", ")", "1+1", 50},
	{"expressions of a later row", "INSERT INTO t VALUES (1), (", ",", "), (2)", "a", 50},
	{"items", "SELECT ", ",", " FROM t", "a", 50},
	{"items with names", "SELECT ", ",", " FROM t", "a AS b", 50},
	{"sorts", "SELECT * FROM t ORDER BY ", ",", "", "a", 50},
	{"sorts down", "SELECT * FROM t ORDER BY ", ",", "", "a DESC", 50},
	{"settings", "UPDATE t SET ", ",", " WHERE a", "a = 1", 50},
	{"sources", "SELECT * FROM a JOIN ", " JOIN ", " WHERE a", "t ON 1", 3},
	{"sources with INNER", "SELECT * FROM a INNER JOIN ", " INNER JOIN ", "", "t AS u ON a = b", 3},
}

func TestP13_1Many(t *testing.T) {
	for _, c := range lists {
		full := c.ahead + c.element + strings.Repeat(c.between+c.element, c.most-1)
		if st, code := parse.Parse(full + c.behind); code != api.OK || st.Kind == 0 {
			t.Errorf("%s: %d at the most", c.name, code)
		}
		fail(t, full+c.between+c.element+c.behind, api.ErrMany)
		fail(t, full+c.between, api.ErrMany)
		fail(t, full+c.between+") ) ,", api.ErrMany)
		fail(t, full+" x"+c.between+c.element+c.behind, api.ErrSyntax)
		if strings.HasPrefix(c.behind, ")") {
			fail(t, full, api.ErrSyntax)
		}
		fail(t, full+c.behind+c.between+" ?", api.ErrSign)
		fewer := c.ahead + c.element + strings.Repeat(c.between+c.element, c.most-2)
		fail(t, fewer+c.between+c.behind, api.ErrSyntax)
		fail(t, fewer+c.between+c.between+c.element+c.behind, api.ErrSyntax)
	}
	fail(t, "SELECT * FROM a JOIN b ON 1 JOIN c ON 1 JOIN d ON 1 INNER x", api.ErrMany)
	fail(t, "SELECT * FROM a JOIN b ON 1 JOIN c ON 1 JOIN d ON 1 JOIN", api.ErrMany)
	fail(t, "SELECT * FROM a JOIN b ON 1 JOIN c ON 1 JOIN d JOIN e ON 1", api.ErrSyntax)
	fail(t, "SELECT * FROM a JOIN b ON 1 JOIN c ON 1 JOIN d ON 1 WHERE 1 JOIN e ON 1", api.ErrSyntax)
	fail(t, "CREATE INDEX i ON t (a,b,c,1,e)", api.ErrSyntax)
}

// TestP13_1ListsApart holds that no list counts another one's elements.
func TestP13_1ListsApart(t *testing.T) {
	row := "(" + strings.Repeat("1,", 29) + "1)"
	if st, code := parse.Parse("INSERT INTO t VALUES " + row + "," + row + "," + row); code != api.OK || len(st.Rows) != 3 || len(st.Rows[2]) != 30 {
		t.Errorf("three rows: %d", code)
	}
	if st, code := parse.Parse("SELECT " + strings.Repeat("1,", 49) + "1 FROM t ORDER BY " + strings.Repeat("1,", 49) + "1"); code != api.OK || len(st.Items) != 50 || len(st.Order) != 50 {
		t.Errorf("items and sorts: %d", code)
	}
}

// around puts an expression between parentheses.
func around(n int, e string) string { return strings.Repeat("(", n) + e + strings.Repeat(")", n) }

// places has for each place of an expression what stands ahead of it and behind it.
var places = [][2]string{
	{"INSERT INTO t VALUES (", ")"}, {"INSERT INTO t VALUES (1), (2, ", ", 3)"},
	{"SELECT ", " FROM t"}, {"SELECT a, ", " AS b FROM t"},
	{"SELECT * FROM t JOIN u ON ", ""}, {"SELECT * FROM t JOIN u ON 1 JOIN v ON ", " WHERE a"},
	{"SELECT * FROM t WHERE ", " ORDER BY a"}, {"SELECT * FROM t ORDER BY ", ""}, {"SELECT * FROM t ORDER BY a, ", " DESC"},
	{"UPDATE t SET a = ", ""}, {"UPDATE t SET a = 1, b = ", " WHERE a"}, {"UPDATE t SET a = 1 WHERE ", ""},
	{"DELETE FROM t WHERE ", ""},
}

func TestP13_1DeepParentheses(t *testing.T) {
	for _, p := range places {
		for _, c := range []struct {
			e    string
			want api.Errno
		}{
			{around(40, "1"), api.OK},
			{around(41, "1"), api.ErrDeep},
			{around(39, "INT(1)"), api.OK},
			{around(40, "INT(1)"), api.ErrDeep},
			{around(40, "REAL(1)"), api.ErrDeep},
			{around(40, "INT 1"), api.ErrSyntax},
			{around(40, "REAL"), api.ErrSyntax},
			{around(40, "a (1)"), api.ErrSyntax},
			{around(40, "()"), api.ErrDeep},
			{strings.Repeat("INT(", 40) + "1" + strings.Repeat(")", 40), api.OK},
			{strings.Repeat("INT(", 41) + "1" + strings.Repeat(")", 41), api.ErrDeep},
			{strings.Repeat("(", 41), api.ErrDeep},
			{strings.Repeat("(", 40), api.ErrSyntax},
			{strings.Repeat("(", 40) + ")", api.ErrSyntax},
			{around(40, "1") + "+" + around(40, "1"), api.OK},
			{around(39, "(1) = (2)"), api.OK},
			{around(40, "1 = (2)"), api.ErrDeep},
			{around(40, "1 = 2 = (3)"), api.ErrSyntax},
			{around(41, "1") + " = = ,", api.ErrDeep},
			{"1 1 " + around(41, "1"), api.ErrSyntax},
		} {
			if _, code := parse.Parse(p[0] + c.e + p[1]); code != c.want {
				t.Errorf("%s..%s: %s: %d, not %d", p[0], p[1], short(c.e), code, c.want)
			}
		}
	}
	fail(t, strings.Repeat("(", 41), api.ErrSyntax)
	fail(t, "CREATE TABLE t "+strings.Repeat("(", 41), api.ErrSyntax)
	fail(t, "INSERT INTO t VALUES ("+strings.Repeat("1,", 50)+around(41, "1")+")", api.ErrMany)
	fail(t, "INSERT INTO t VALUES ("+around(41, "1")+strings.Repeat(",1", 50)+")", api.ErrDeep)
}

func TestP13_1DeepOperators(t *testing.T) {
	deep := []struct{ at, above string }{
		{"1" + strings.Repeat("+1", 40), "1" + strings.Repeat("+1", 41)},
		{"a" + strings.Repeat(" or a", 40), "a" + strings.Repeat(" or a", 41)},
		{strings.Repeat("- ", 40) + "1", strings.Repeat("- ", 41) + "1"},
		{strings.Repeat("not ", 40) + "a", strings.Repeat("not ", 41) + "a"},
		{"a = b" + strings.Repeat("*1", 39), "a = b" + strings.Repeat("*1", 40)},
		{strings.Repeat("int(-", 20) + "1" + strings.Repeat(")", 20), "-" + strings.Repeat("int(-", 20) + "1" + strings.Repeat(")", 20)},
		{strings.Repeat("(1-", 40) + "1" + strings.Repeat(")", 40), "1-" + strings.Repeat("(1-", 40) + "1" + strings.Repeat(")", 40)},
		{strings.Repeat("not ", 39) + "a is null", strings.Repeat("not ", 40) + "a is null"},
		{around(40, "a") + strings.Repeat("+1", 40), around(40, "a") + strings.Repeat("+1", 41)},
	}
	for _, p := range places {
		for _, c := range deep {
			if _, code := parse.Parse(p[0] + c.at + p[1]); code != api.OK {
				t.Errorf("%s..%s: %s: %d", p[0], p[1], short(c.at), code)
			}
			fail(t, p[0]+c.above+p[1], api.ErrDeep)
			fail(t, p[0]+c.above+p[1]+" x y", api.ErrSyntax)
			fail(t, p[0]+c.above+" "+around(41, "1"), api.ErrSyntax)
			fail(t, p[0]+c.above+" and "+around(41, "1")+" x y", api.ErrDeep)
		}
	}
	fail(t, "SELECT "+strings.Repeat("1+", 41)+"1 FROM", api.ErrSyntax)
	fail(t, "SELECT "+strings.Repeat("1+", 41)+strings.Repeat("1,", 51)+"1 FROM t", api.ErrMany)
	fail(t, "SELECT "+strings.Repeat("-", 3900)+"1 FROM t", api.ErrDeep)
	fail(t, "DELETE FROM t WHERE "+strings.Repeat("NOT ", 900)+"a", api.ErrDeep)
}

func TestP13_2Depth(t *testing.T) {
	one := whole(1)
	for _, c := range []struct {
		e    api.Expr
		want int
	}{
		{none, 0}, {one, 0}, {null(), 0}, {col("a"), 0}, {of("a", "b"), 0}, {text("a + b"), 0},
		{op(api.OpNeg, one), 1}, {op(api.OpAdd, one, one), 1}, {op(api.OpIsNull, col("a")), 1},
		{op(api.OpNot, op(api.OpNot, one)), 2},
		{op(api.OpAnd, op(api.OpNot, op(api.OpNot, one)), one), 3}, {op(api.OpAnd, one, op(api.OpNot, op(api.OpNot, one))), 3},
		{op(api.OpAdd, op(api.OpNeg, one), op(api.OpNeg, one)), 2},
		{op(api.OpEq, op(api.OpAdd, one, op(api.OpNeg, one)), op(api.OpMul, one, one)), 3},
		{api.Expr{Op: api.OpConst, Args: []api.Expr{op(api.OpNeg, one)}}, 0}, {api.Expr{Op: api.OpColumn, Args: []api.Expr{op(api.OpNeg, one)}}, 0}, {api.Expr{Args: []api.Expr{op(api.OpNeg, one)}}, 0},
		{op(api.OpNeg, none), 1}, {op(api.OpNeg), 1}, {op(api.OpNeg, one, one, op(api.OpNeg, one)), 2}, {op(-1, one), 1}, {op(99, op(math.MinInt, one)), 2}, {op(math.MaxInt), 1},
	} {
		if n := parse.Depth(c.e); n != c.want {
			t.Errorf("%+v: %d, not %d", c.e, n, c.want)
		}
	}
	e := one
	for n := range 60000 {
		if n == 41 || n == 59999 {
			if got := parse.Depth(e); got != n {
				t.Errorf("%d operators: %d", n, got)
			}
		}
		e = op(api.OpSub, one, e)
	}
}
