package bind_test

import (
	"fmt"
	"slices"
	"testing"

	"hasp/api"
	"hasp/bind"
)

func TestP16_2Needs(t *testing.T) {
	for _, c := range []struct{ s, tables, index string }{
		{"CREATE TABLE x (a INT)", "[x]", ""}, {"DROP TABLE t", "[t]", ""}, {"CREATE INDEX k ON t (a, b)", "[t]", "k"}, {"CREATE UNIQUE INDEX t ON t (t)", "[t]", "t"}, {"DROP INDEX k", "[]", "k"},
		{"INSERT INTO t VALUES (1)", "[t]", ""}, {"UPDATE u SET a = v.b WHERE w.c", "[u]", ""}, {"DELETE FROM sysindexes", "[sysindexes]", ""}, {"BEGIN", "[]", ""}, {"COMMIT", "[]", ""}, {"ROLLBACK", "[]", ""},
		{"SELECT a FROM t", "[t]", ""}, {"SELECT x.a FROM t AS x WHERE u.a ORDER BY v.a", "[t]", ""}, {"SELECT 1 FROM z JOIN b ON TRUE JOIN systables ON TRUE JOIN a ON TRUE", "[z b systables a]", ""},
		{"SELECT 1 FROM t AS u JOIN u AS t ON TRUE", "[t u]", ""}, {"SELECT 1 FROM t JOIN t AS x ON TRUE JOIN u ON TRUE JOIN t AS y ON TRUE", "[t u]", ""}, {"SELECT 1 FROM u JOIN t ON TRUE JOIN u ON TRUE JOIN t ON TRUE", "[u t]", ""},
	} {
		tables, index := bind.Needs(read(t, c.s))
		if fmt.Sprint(tables) != c.tables || index != c.index {
			t.Errorf("%s: %v, %q", c.s, tables, index)
		}
	}
}

// TestP16_2Wrong has statements that aren't right: each field is taken as it stands.
func TestP16_2Wrong(t *testing.T) {
	var many []api.Source
	for n := range 1000 {
		many = append(many, api.Source{Table: fmt.Sprint("t", n%300), Alias: "x"})
	}
	tables, index := bind.Needs(api.Stmt{Kind: api.StSelect, Table: "no", Index: "i", From: many})
	if len(tables) != 300 || tables[7] != "t7" || index != "i" {
		t.Errorf("a long list: %v, %q", tables, index)
	}
	tables, index = bind.Needs(api.Stmt{Kind: -1, Table: "\xff", Index: "\x00", From: many})
	if !slices.Equal(tables, []string{"\xff"}) || index != "\x00" {
		t.Errorf("no kind: %v, %q", tables, index)
	}
	tables, index = bind.Needs(api.Stmt{})
	if len(tables) != 0 || index != "" {
		t.Errorf("nothing: %v, %q", tables, index)
	}
}

// others gives the tables as they could be too, as far as the statement doesn't name them: with the same indexes' names, if these are looked at.
func others(st api.Stmt, all []api.Table) []api.Table {
	names, _ := bind.Needs(st)
	var list []api.Table
	for _, x := range all {
		switch {
		case slices.Contains(names, x.Name):
			list = append(list, x)
		case st.Kind == api.StDropIndex && slices.ContainsFunc(x.Indexes, func(i api.Index) bool { return i.Name == st.Index }):
			list = append(list, x)
		case st.Kind == api.StCreateIndex:
			x.Cols = []api.Column{{Name: "other", Type: api.Text}}
			x.Indexes = slices.Clone(x.Indexes)
			for i := range x.Indexes {
				x.Indexes[i].Cols = []int{0}
			}
			list = append([]api.Table{x}, list...)
		}
	}
	return list
}

// TestP16_2Others holds that Bind looks at no tables but those that a statement needs.
func TestP16_2Others(t *testing.T) {
	g := newMaker(162)
	for range 4000 {
		st := g.statement()
		want, e := bind.Bind(st, sample())
		check(t, "", st, others(st, sample()), want, e)
	}
}
