package parse_test

import (
	"fmt"
	"math"
	"reflect"
	"strings"
	"testing"

	"hasp/api"
	"hasp/parse"
)

// none is the expression that isn't there.
var none = api.Expr{}

func whole(n int64) api.Expr { return api.Expr{Op: api.OpConst, Kind: api.Int, Num: n} }

func point(n int64, scale int) api.Expr {
	return api.Expr{Op: api.OpConst, Kind: api.Real, Num: n, Scale: scale}
}

func text(s string) api.Expr { return api.Expr{Op: api.OpConst, Kind: api.Text, Text: s} }

func null() api.Expr { return api.Expr{Op: api.OpConst, Kind: api.Null} }

func truth(n int64) api.Expr { return api.Expr{Op: api.OpConst, Kind: api.Bool, Num: n} }

func col(name string) api.Expr { return api.Expr{Op: api.OpColumn, Text: name} }

func of(qual, name string) api.Expr { return api.Expr{Op: api.OpColumn, Qual: qual, Text: name} }

func op(n int, args ...api.Expr) api.Expr { return api.Expr{Op: n, Args: args} }

// short gives a text that a failure can show.
func short(s string) string {
	if len(s) > 120 {
		return fmt.Sprintf("%q and on, %d bytes", s[:120], len(s))
	}
	return fmt.Sprintf("%q", s)
}

// hold looks whether a text is read as a statement.
func hold(t *testing.T, s string, want api.Stmt) {
	t.Helper()
	if st, code := parse.Parse(s); code != api.OK || !reflect.DeepEqual(st, want) {
		t.Errorf("%s: %+v, %d, not %+v", short(s), st, code, want)
	}
}

// fail looks whether a text has this error.
func fail(t *testing.T, s string, want api.Errno) {
	t.Helper()
	if st, code := parse.Parse(s); code != want || !reflect.DeepEqual(st, api.Stmt{}) {
		t.Errorf("%s: a statement of kind %d, %d, not %d", short(s), st.Kind, code, want)
	}
}

// means looks whether a condition is read as an expression.
func means(t *testing.T, s string, want api.Expr) {
	t.Helper()
	hold(t, "DELETE FROM t WHERE "+s, api.Stmt{Kind: api.StDelete, Table: "t", Where: want})
}

func TestP13_1Tables(t *testing.T) {
	hold(t, "CREATE TABLE t (a INT)", api.Stmt{Kind: api.StCreateTable, Table: "t", Cols: []api.Column{{Name: "a", Type: api.Int}}})
	hold(t, "create table tt(a int not null,b real,c bool not null, d text, a text)", api.Stmt{Kind: api.StCreateTable, Table: "tt", Cols: []api.Column{
		{Name: "a", Type: api.Int, Required: true}, {Name: "b", Type: api.Real}, {Name: "c", Type: api.Bool, Required: true}, {Name: "d", Type: api.Text}, {Name: "a", Type: api.Text}}})
	hold(t, "Drop\tTable\nT_1", api.Stmt{Kind: api.StDropTable, Table: "t_1"})
	hold(t, "CREATE INDEX i ON t (b, a)", api.Stmt{Kind: api.StCreateIndex, Index: "i", Table: "t", Names: []string{"b", "a"}})
	hold(t, "CREATE UNIQUE INDEX t ON t (a)", api.Stmt{Kind: api.StCreateIndex, Index: "t", Table: "t", Names: []string{"a"}, Unique: true})
	hold(t, "CREATE UNIQUE INDEX i ON t (a,a,b,c)", api.Stmt{Kind: api.StCreateIndex, Index: "i", Table: "t", Names: []string{"a", "a", "b", "c"}, Unique: true})
	hold(t, "DROP INDEX i", api.Stmt{Kind: api.StDropIndex, Index: "i"})
	hold(t, "BEGIN", api.Stmt{Kind: api.StBegin})
	hold(t, " commit ", api.Stmt{Kind: api.StCommit})
	hold(t, "\nRollBack", api.Stmt{Kind: api.StRollback})
}

func TestP13_1Changes(t *testing.T) {
	hold(t, "INSERT INTO t VALUES (1)", api.Stmt{Kind: api.StInsert, Table: "t", Rows: [][]api.Expr{{whole(1)}}})
	hold(t, "INSERT INTO t VALUES (1, 'a', NULL), (a.b), (TRUE, (2))", api.Stmt{Kind: api.StInsert, Table: "t", Rows: [][]api.Expr{
		{whole(1), text("a"), null()}, {of("a", "b")}, {truth(1), whole(2)}}})
	hold(t, "UPDATE t SET a = 1", api.Stmt{Kind: api.StUpdate, Table: "t", Sets: []api.Set{{Col: "a", E: whole(1)}}})
	hold(t, "UPDATE t SET a = b = c, b = a OR d WHERE a = 1", api.Stmt{Kind: api.StUpdate, Table: "t", Sets: []api.Set{
		{Col: "a", E: op(api.OpEq, col("b"), col("c"))}, {Col: "b", E: op(api.OpOr, col("a"), col("d"))}},
		Where: op(api.OpEq, col("a"), whole(1))})
	hold(t, "DELETE FROM t", api.Stmt{Kind: api.StDelete, Table: "t"})
	hold(t, "DELETE FROM t WHERE NOT a = -1 + b * 2", api.Stmt{Kind: api.StDelete, Table: "t", Where: op(api.OpNot, op(api.OpEq, col("a"),
		op(api.OpAdd, op(api.OpNeg, whole(1)), op(api.OpMul, col("b"), whole(2)))))})
}

func TestP13_1Queries(t *testing.T) {
	hold(t, "SELECT * FROM t", api.Stmt{Kind: api.StSelect, From: []api.Source{{Table: "t"}}})
	hold(t, "SELECT a, b AS c, t.a + 1 AS a FROM t", api.Stmt{Kind: api.StSelect, Items: []api.Item{
		{E: col("a")}, {E: col("b"), Name: "c"}, {E: op(api.OpAdd, of("t", "a"), whole(1)), Name: "a"}}, From: []api.Source{{Table: "t"}}})
	hold(t, "SELECT 1 FROM t AS a INNER JOIN t ON NULL JOIN u AS b ON a.x = b.y AND c JOIN v ON x", api.Stmt{Kind: api.StSelect, Items: []api.Item{{E: whole(1)}}, From: []api.Source{
		{Table: "t", Alias: "a"}, {Table: "t", On: null()},
		{Table: "u", Alias: "b", On: op(api.OpAnd, op(api.OpEq, of("a", "x"), of("b", "y")), col("c"))}, {Table: "v", On: col("x")}}})
	hold(t, "SELECT * FROM t ORDER BY a", api.Stmt{Kind: api.StSelect, From: []api.Source{{Table: "t"}}, Order: []api.Sort{{E: col("a")}}})
	hold(t, "SELECT * FROM t JOIN u ON a WHERE b ORDER BY a DESC, b, 1 = 2 DESC", api.Stmt{Kind: api.StSelect, From: []api.Source{{Table: "t"}, {Table: "u", On: col("a")}},
		Where: col("b"), Order: []api.Sort{{E: col("a"), Desc: true}, {E: col("b")}, {E: op(api.OpEq, whole(1), whole(2)), Desc: true}}})
	hold(t, "select a.x , -1+b*2 as c from t as a join u on not x is null order by 7.50 desc", api.Stmt{Kind: api.StSelect, Items: []api.Item{
		{E: of("a", "x")}, {E: op(api.OpAdd, op(api.OpNeg, whole(1)), op(api.OpMul, col("b"), whole(2))), Name: "c"}},
		From:  []api.Source{{Table: "t", Alias: "a"}, {Table: "u", On: op(api.OpNot, op(api.OpIsNull, col("x")))}},
		Order: []api.Sort{{E: point(750, 2), Desc: true}}})
}

func TestP13_1Constants(t *testing.T) {
	means(t, "NULL", null())
	means(t, "TRUE", truth(1))
	means(t, "False", truth(0))
	means(t, "0", whole(0))
	means(t, "007", whole(7))
	means(t, "9223372036854775807", whole(math.MaxInt64))
	means(t, "7.50", point(750, 2))
	means(t, "0.0", point(0, 1))
	means(t, "00.10", point(10, 2))
	means(t, "0.99999999999999", point(99999999999999, 14))
	means(t, "99999999999999.9", point(999999999999999, 1))
	means(t, "NaN", point(0, api.ScaleNaN))
	means(t, "INFINITY", point(0, api.ScaleInf))
	means(t, "- infinity", op(api.OpNeg, point(0, api.ScaleInf)))
	means(t, "''", text(""))
	means(t, "'It''s'", text("It's"))
	means(t, "'('", text("("))
	means(t, "'null'", text("null"))
	means(t, "'a' = 'AND'", op(api.OpEq, text("a"), text("AND")))
	means(t, "A", col("a"))
	means(t, "a . B", of("a", "b"))
	means(t, "asc.key", of("asc", "key"))
}

func TestP13_1Operators(t *testing.T) {
	for word, n := range map[string]int{"=": api.OpEq, "<>": api.OpNe, "<": api.OpLt, "<=": api.OpLe, ">": api.OpGt, ">=": api.OpGe,
		"+": api.OpAdd, "-": api.OpSub, "*": api.OpMul, "/": api.OpDiv, "%": api.OpMod, "||": api.OpCat, "and": api.OpAnd, "OR": api.OpOr} {
		means(t, "a "+word+" 1", op(n, col("a"), whole(1)))
		if n > api.OpGe {
			means(t, "a "+word+" b "+word+" c", op(n, op(n, col("a"), col("b")), col("c")))
		} else {
			fail(t, "DELETE FROM t WHERE a "+word+" b "+word+" c", api.ErrSyntax)
		}
		means(t, "a "+word+" (b "+word+" c)", op(n, col("a"), op(n, col("b"), col("c"))))
	}
	means(t, "NOT a", op(api.OpNot, col("a")))
	means(t, "- a", op(api.OpNeg, col("a")))
	means(t, "--a", op(api.OpNeg, op(api.OpNeg, col("a"))))
	means(t, "NOT NOT a", op(api.OpNot, op(api.OpNot, col("a"))))
	means(t, "a IS NULL", op(api.OpIsNull, col("a")))
	means(t, "a IS NOT NULL", op(api.OpNotNull, col("a")))
	means(t, "INT(a)", op(api.OpToInt, col("a")))
	means(t, "real ( a )", op(api.OpToReal, col("a")))
	means(t, "INT(REAL(1))", op(api.OpToInt, op(api.OpToReal, whole(1))))
}

func TestP13_1Precedence(t *testing.T) {
	a, b, c, d := col("a"), col("b"), col("c"), col("d")
	means(t, "a OR b AND c", op(api.OpOr, a, op(api.OpAnd, b, c)))
	means(t, "a AND b OR c", op(api.OpOr, op(api.OpAnd, a, b), c))
	means(t, "a OR b AND c OR d", op(api.OpOr, op(api.OpOr, a, op(api.OpAnd, b, c)), d))
	means(t, "(a OR b) AND c", op(api.OpAnd, op(api.OpOr, a, b), c))
	means(t, "NOT a AND b", op(api.OpAnd, op(api.OpNot, a), b))
	means(t, "a AND NOT b", op(api.OpAnd, a, op(api.OpNot, b)))
	means(t, "NOT a = b", op(api.OpNot, op(api.OpEq, a, b)))
	means(t, "(NOT a) = b", op(api.OpEq, op(api.OpNot, a), b))
	means(t, "a = (NOT b)", op(api.OpEq, a, op(api.OpNot, b)))
	means(t, "NOT a IS NOT NULL", op(api.OpNot, op(api.OpNotNull, a)))
	means(t, "a = b AND c", op(api.OpAnd, op(api.OpEq, a, b), c))
	means(t, "a + b = c - d", op(api.OpEq, op(api.OpAdd, a, b), op(api.OpSub, c, d)))
	means(t, "a + b IS NULL", op(api.OpIsNull, op(api.OpAdd, a, b)))
	means(t, "(a = b) IS NULL", op(api.OpIsNull, op(api.OpEq, a, b)))
	means(t, "a + b * c", op(api.OpAdd, a, op(api.OpMul, b, c)))
	means(t, "a * b + c", op(api.OpAdd, op(api.OpMul, a, b), c))
	means(t, "a - b + c || d", op(api.OpCat, op(api.OpAdd, op(api.OpSub, a, b), c), d))
	means(t, "a || b - c", op(api.OpSub, op(api.OpCat, a, b), c))
	means(t, "a / b % c * d", op(api.OpMul, op(api.OpMod, op(api.OpDiv, a, b), c), d))
	means(t, "a - (b - c)", op(api.OpSub, a, op(api.OpSub, b, c)))
	means(t, "- a * b", op(api.OpMul, op(api.OpNeg, a), b))
	means(t, "- (a * b)", op(api.OpNeg, op(api.OpMul, a, b)))
	means(t, "a - - b", op(api.OpSub, a, op(api.OpNeg, b)))
	means(t, "a * - b", op(api.OpMul, a, op(api.OpNeg, b)))
	means(t, "- INT(a) + b", op(api.OpAdd, op(api.OpNeg, op(api.OpToInt, a)), b))
	means(t, "INT(a OR b)", op(api.OpToInt, op(api.OpOr, a, b)))
	means(t, "((a))", a)
	means(t, "((a) + ((b)))", op(api.OpAdd, a, b))
}

func TestP13_1Syntax(t *testing.T) {
	for _, s := range []string{
		"", " \n", "x", "1", "'select'", "(", "BEGIN BEGIN", "BEGIN 1", "COMMIT TABLE", "ROLLBACK ROLLBACK", "START", "SELECT",
		"CREATE t", "CREATE TABLE (a INT)", "CREATE TABLE t", "CREATE TABLE t ()", "CREATE TABLE t (a)", "CREATE TABLE t (a INT", "CREATE TABLE t (a INT,)", "CREATE TABLE t (a INT b INT)", "CREATE TABLE t (a INT NULL)", "CREATE TABLE t (a INT NOT)", "CREATE TABLE t (a NOT NULL INT)", "CREATE TABLE t (a NULL)", "CREATE TABLE t (a 'int')", "CREATE TABLE t (int INT)", "CREATE TABLE t.u (a INT)", "CREATE TABLE t (a INT) x", "CREATE TABLE 'table' (a INT)", "CREATE UNIQUE TABLE t (a INT)",
		"CREATE INDEX ON t (a)", "CREATE INDEX i t (a)", "CREATE INDEX i ON t", "CREATE INDEX i ON t ()", "CREATE INDEX i ON t (a", "CREATE INDEX i ON t (a,)", "CREATE INDEX i ON t (a b)", "CREATE INDEX i ON t (t.a)", "CREATE INDEX i ON t (a DESC)", "CREATE INDEX i ON t (1)", "CREATE UNIQUE i ON t (a)", "CREATE UNIQUE UNIQUE INDEX i ON t (a)",
		"DROP t", "DROP TABLE", "DROP TABLE t, u", "DROP TABLE select", "DROP INDEX", "DROP INDEX i ON t", "DROP UNIQUE INDEX i",
		"INSERT t VALUES (1)", "INSERT INTO VALUES (1)", "INSERT INTO t (a) VALUES (1)", "INSERT INTO t VALUES", "INSERT INTO t VALUES 1", "INSERT INTO t VALUES ()", "INSERT INTO t VALUES (1", "INSERT INTO t VALUES (1,)", "INSERT INTO t VALUES (1),", "INSERT INTO t VALUES (1) (2)", "INSERT INTO t VALUES (1) WHERE a", "INSERT INTO t VALUES ((1, 2))", "INSERT INTO t VALUES (*)",
		"SELECT FROM t", "SELECT * t", "SELECT *, a FROM t", "SELECT a, * FROM t", "SELECT t.* FROM t", "SELECT a", "SELECT a FROM", "SELECT a FROM 1", "SELECT a FROM t u", "SELECT a b FROM t", "SELECT a AS FROM t", "SELECT a AS 1 FROM t", "SELECT a AS t.b FROM t", "SELECT a, FROM t", "SELECT a FROM t, u", "SELECT a FROM t AS", "SELECT a FROM t.u", "SELECT a FROM (t)", "SELECT a FROM t JOIN u", "SELECT a FROM t JOIN u ON", "SELECT a FROM t JOIN ON a", "SELECT a FROM t INNER u ON a", "SELECT a FROM t INNER INNER JOIN u ON a", "SELECT a FROM t JOIN INNER u ON a", "SELECT a FROM t ON a", "SELECT a FROM t JOIN u JOIN v ON a ON b", "SELECT a FROM t WHERE", "SELECT a FROM t WHERE a WHERE b", "SELECT a FROM t WHERE a JOIN u ON b", "SELECT a FROM t ORDER a", "SELECT a FROM t ORDER BY", "SELECT a FROM t ORDER BY a,", "SELECT a FROM t ORDER BY a DESC DESC", "SELECT a FROM t ORDER BY a ASC", "SELECT a FROM t ORDER BY DESC", "SELECT a FROM t ORDER BY a WHERE b", "SELECT a FROM t ORDER BY (a, b)", "SELECT a FROM t DESC",
		"UPDATE SET a = 1", "UPDATE t a = 1", "UPDATE t SET", "UPDATE t SET a", "UPDATE t SET a 1", "UPDATE t SET a =", "UPDATE t SET t.a = 1", "UPDATE t SET a = 1,", "UPDATE t SET a = 1 b = 2", "UPDATE t SET a <> 1", "UPDATE t SET a = 1 WHERE", "UPDATE t AS u SET a = 1", "UPDATE t SET a = 1 ORDER BY a",
		"DELETE t", "DELETE FROM", "DELETE FROM t WHERE", "DELETE FROM t u", "DELETE FROM t WHERE a b", "DELETE * FROM t", "DELETE FROM t ORDER BY a",
	} {
		fail(t, s, api.ErrSyntax)
	}
	for _, e := range []string{
		"a = b = c", "a < b < c", "a = b <> c", "a IS NULL IS NULL", "a IS NULL = b", "a = b IS NULL", "a IS b", "a IS", "a IS NOT", "a IS NOT b", "a IS TRUE", "a NOT NULL",
		"= a", "a =", "a = NOT b", "a + NOT b", "- NOT a", "NOT", "NOT AND a", "a NOT b", "a AND", "AND a", "a AND OR b", "a AND AND b", "a OR", "a +", "+ a", "a + + b", "* a", "a * * b", "a -", "-", "||", "a || || b", "a % / b",
		"(a", "a)", "()", "(a))", "((a)", "(a, b)", "a (b)", "(a) (b)", "a.", ".a", "a.b.c", "a.1", "1.a", "a.null", "null.a", "a.'b'", "'a'.b", "INT a", "INT", "INT()", "INT(a", "INT(a, b)", "REAL", "REAL 1", "BOOL(a)", "TEXT(a)", "INT.a", "(INT)a", "a 1", "1 1", "1 a", "'a' 'b'", "NULL NULL", "TRUE(a)", "select", "by", "(SELECT a FROM t)", "*", "a, b", "a == b", "a < = b", "a > < b", "a , b", "a desc",
	} {
		fail(t, "DELETE FROM t WHERE "+e, api.ErrSyntax)
	}
}

func TestP13_1TokensFirst(t *testing.T) {
	fail(t, strings.Repeat(" ", 4001), api.ErrLong)
	fail(t, "DELETE DELETE 'a", api.ErrQuote)
	fail(t, "x y z !", api.ErrSign)
	fail(t, "BEGIN;", api.ErrSign)
	fail(t, "DROP DROP "+strings.Repeat("a", 33), api.ErrWord)
	fail(t, "1 2 12345678901234567890", api.ErrNumber)
	fail(t, "1 2 1234567890.123456", api.ErrNumber)
	fail(t, "1 2 '"+strings.Repeat("a", 201)+"'", api.ErrLong)
	fail(t, "DELETE FROM t WHERE "+strings.Repeat("(", 50)+"1 ?", api.ErrSign)
	fail(t, "CREATE INDEX i ON t (a,b,c,d,e) #", api.ErrSign)
	hold(t, "BEGIN"+strings.Repeat(" ", 3995), api.Stmt{Kind: api.StBegin})
}
