package bind_test

import (
	"testing"

	"hasp/api"
)

func con(v api.Value) api.Code { return api.Code{Op: api.OpConst, Type: v.Kind, Val: v} }

func num(n int64) api.Code { return con(api.Value{Kind: api.Int, Num: n}) }

func txt(s string) api.Code { return con(api.Value{Kind: api.Text, Text: s}) }

func truth(n int64) api.Code { return con(api.Value{Kind: api.Bool, Num: n}) }

func point(f float64) api.Code { return con(api.Value{Kind: api.Real, Num: bitsOf(f)}) }

func at(tab, col, kind int) api.Code {
	return api.Code{Op: api.OpColumn, Type: kind, Tab: tab, Col: col}
}

func do(op, kind int, args ...api.Code) api.Code { return api.Code{Op: op, Type: kind, Args: args} }

// codes makes a list of codes.
func codes(list ...api.Code) []api.Code { return list }

// gives looks whether a statement over the sample gives this term.
func gives(t *testing.T, s string, want api.Term) {
	t.Helper()
	check(t, s, read(t, s), sample(), want, api.OK)
}

func TestP16_1TermsOfTables(t *testing.T) {
	all := sample()
	gives(t, "CREATE TABLE x (k BOOL, l TEXT NOT NULL)", api.Term{Kind: api.StCreateTable, Tables: []api.Table{{Name: "x", Cols: []api.Column{{Name: "k", Type: api.Bool}, {Name: "l", Type: api.Text, Required: true}}}}})
	gives(t, "DROP TABLE t", api.Term{Kind: api.StDropTable, Tables: all[:1]})
	gives(t, "DROP TABLE w", api.Term{Kind: api.StDropTable, Tables: all[3:]})
	gives(t, "CREATE INDEX x ON t (b, a)", api.Term{Kind: api.StCreateIndex, Tables: all[:1], Index: api.Index{Name: "x", Cols: []int{1, 0}}})
	gives(t, "CREATE UNIQUE INDEX y ON u (e)", api.Term{Kind: api.StCreateIndex, Tables: all[1:2], Index: api.Index{Name: "y", Cols: []int{1}, Unique: true}})
	gives(t, "DROP INDEX i", api.Term{Kind: api.StDropIndex, Tables: all[:1], Index: all[0].Indexes[0]})
	gives(t, "DROP INDEX j", api.Term{Kind: api.StDropIndex, Tables: all[:1], Index: all[0].Indexes[1]})
	gives(t, "DROP INDEX w7", api.Term{Kind: api.StDropIndex, Tables: all[3:], Index: all[3].Indexes[7]})
	gives(t, "BEGIN", api.Term{Kind: api.StBegin})
	gives(t, "COMMIT", api.Term{Kind: api.StCommit})
	gives(t, "ROLLBACK", api.Term{Kind: api.StRollback})
}

func TestP16_1TermsOfChanges(t *testing.T) {
	all := sample()
	a, b, c, d := at(0, 0, api.Int), at(0, 1, api.Text), at(0, 2, api.Real), at(0, 3, api.Bool)
	gives(t, "INSERT INTO u VALUES (1, 0.5), (NULL, REAL(2)), (2 + 3, NULL)", api.Term{Kind: api.StInsert, Tables: all[1:2], Rows: [][]api.Code{
		{num(1), point(0.5)}, {con(api.Value{}), do(api.OpToReal, api.Real, num(2))}, {do(api.OpAdd, api.Int, num(2), num(3)), con(api.Value{})},
	}})
	gives(t, "UPDATE t SET c = - c, a = 7", api.Term{Kind: api.StUpdate, Tables: all[:1], Rows: [][]api.Code{{num(7), b, do(api.OpNeg, api.Real, c), d}}})
	gives(t, "UPDATE t SET b = NULL WHERE t.a > 3", api.Term{Kind: api.StUpdate, Tables: all[:1], Rows: [][]api.Code{{a, con(api.Value{}), c, d}}, Conds: codes(do(api.OpGt, api.Bool, a, num(3)))})
	gives(t, "DELETE FROM t", api.Term{Kind: api.StDelete, Tables: all[:1]})
	gives(t, "DELETE FROM t WHERE d AND b = 'x'", api.Term{Kind: api.StDelete, Tables: all[:1], Conds: codes(do(api.OpAnd, api.Bool, d, do(api.OpEq, api.Bool, b, txt("x"))))})
}

func TestP16_1TermsOfQueries(t *testing.T) {
	all := sample()
	a, b, c, d := at(0, 0, api.Int), at(0, 1, api.Text), at(0, 2, api.Real), at(0, 3, api.Bool)
	gives(t, "SELECT * FROM t", api.Term{Kind: api.StSelect, Tables: all[:1], Items: codes(a, b, c, d), Names: []string{"a", "b", "c", "d"}})
	gives(t, "SELECT t.b, a AS k, a + 1, 1 AS one, - a AS b FROM t WHERE NULL", api.Term{Kind: api.StSelect, Tables: all[:1], Conds: codes(con(api.Value{})),
		Items: codes(b, a, do(api.OpAdd, api.Int, a, num(1)), num(1), do(api.OpNeg, api.Int, a)), Names: []string{"b", "k", "", "one", "b"}})
	gives(t, "SELECT * FROM u JOIN v AS q ON q.f = 'x' JOIN u AS r ON r.a = u.a WHERE u.e = 1.5 ORDER BY f DESC, 1, r.e DESC", api.Term{
		Kind: api.StSelect, Tables: []api.Table{all[1], all[2], all[1]},
		Conds: codes(do(api.OpEq, api.Bool, at(1, 0, api.Text), txt("x")), do(api.OpEq, api.Bool, at(2, 0, api.Int), at(0, 0, api.Int)), do(api.OpEq, api.Bool, at(0, 1, api.Real), point(1.5))),
		Items: codes(at(0, 0, api.Int), at(0, 1, api.Real), at(1, 0, api.Text), at(2, 0, api.Int), at(2, 1, api.Real)), Names: []string{"a", "e", "f", "a", "e"},
		Order: codes(at(1, 0, api.Text), num(1), at(2, 1, api.Real)), Desc: []bool{true, false, true},
	})
	gives(t, "SELECT name FROM systables JOIN v ON TRUE", api.Term{Kind: api.StSelect, Tables: []api.Table{systems()[0], all[2]}, Conds: codes(truth(1)), Items: codes(at(0, 0, api.Text)), Names: []string{"name"}})
	gives(t, "SELECT * FROM sysindexes", api.Term{Kind: api.StSelect, Tables: systems()[2:], Items: codes(at(0, 0, api.Text), at(0, 1, api.Text), at(0, 2, api.Bool), at(0, 3, api.Text)), Names: []string{"name", "tbl", "uniq", "cols"}})
}
