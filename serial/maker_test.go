package serial_test

import (
	"fmt"
	"math/rand/v2"
	"regexp"
	"slices"
	"strings"
)

// waysOf gives the ways to write a part of a statement, each as likely as another; a word between < and > stands for a part. All tables have the columns a, b (INT), r (REAL), s (TEXT) and f (BOOL).
func waysOf(part string) []string {
	switch part {
	case "n":
		return []string{"0", "1", "1", "2", "2", "3", "4", "5", "6", "(- 1)", "9223372036854775807"}
	case "table":
		return []string{"t", "t", "t", "u", "u", "v"}
	case "index":
		return []string{"i", "j", "k", "l", "m"}
	case "nn":
		return []string{"", "", "", " NOT NULL"}
	case "columns":
		return []string{"a", "a", "a", "b", "a, b", "b, a", "s", "r", "f, a", "a, b, r, s", "b, s", "a, a", "z"}
	case "op":
		return []string{"=", "=", "=", "<", "<=", ">", ">=", "<>"}
	case "int":
		return []string{"<n>", "<n>", "<of>a", "<of>a", "<of>b", "<of>b", "NULL", "(<int> + <int>)", "(<int> - <int>)", "(<int> * <int>)", "(<int> / <int>)", "(<int> % <int>)", "(- <int>)", "INT(<real>)", "INT(<bool>)"}
	case "real":
		return []string{"0.0", "0.5", "2.0", "(- 0.0)", "NAN", "INFINITY", "NULL", "<of>r", "<of>r", "<of>r", "(<real> + <real>)", "(<real> * <real>)", "(<real> / <real>)", "(- <real>)", "REAL(<int>)"}
	case "text":
		return []string{"''", "'x'", "'y'", "'xy'", "NULL", "<of>s", "<of>s", "<of>s", "(<text> || <text>)", "(<text> || '" + strings.Repeat("z", 150) + "')"}
	case "bool":
		return []string{"TRUE", "FALSE", "NULL", "<of>f", "<of>f", "(NOT <bool>)", "(<bool> AND <bool>)", "(<bool> OR <bool>)", "(<int> IS NULL)", "(<text> IS NOT NULL)", "<test>", "<test>", "<test>", "<test>"}
	case "test":
		return []string{"(<of>a <op> <n>)", "(<of>b <op> <n>)", "(<of>a <op> <of>b)", "(<of>s <op> 'x')", "(<of>r <op> 0.5)", "(<of>a <op> <int>)", "(<int> <op> <int>)", "(<real> <op> <real>)", "(<text> <op> <text>)", "(<bool> <op> <bool>)", "(<int> <op> <n> / <of>a)"}
	case "any":
		return []string{"<int>", "<int>", "<real>", "<text>", "<bool>"}
	case "where":
		return []string{"", " WHERE <bool>", " WHERE <test>", " WHERE <test>", " WHERE <test> AND <test>", " WHERE <test> AND <bool> AND <test>"}
	case "few":
		return []string{" WHERE (<of>a = <n>)", " WHERE (<of>a = <n>)", " WHERE (<of>b = <n> OR <of>s = 'y')", "<where>"}
	case "set":
		return []string{"a = <int>", "b = <int>", "a = <of>a + 1", "r = <real>", "s = <text>", "f = <bool>", "b = <of>a, a = <of>b", "a = <n>, s = <text>"}
	case "row":
		return []string{"(<n>, <n>, <real>, <text>, <bool>)", "(<n>, <n>, <real>, <text>, <bool>)", "(<int>, <int>, <real>, <text>, <bool>)", "(<n>, NULL, NULL, NULL, NULL)"}
	case "rows":
		return []string{"<row>", "<row>", "<row>, <row>", "<row>, <row>, <row>"}
	case "items":
		return []string{"*", "<any>", "<any>, <any>", "<of>a, <of>b, <any>", "<of>s AS x, <of>r"}
	case "desc":
		return []string{"", " DESC"}
	case "order":
		return []string{"", " ORDER BY <any><desc>", " ORDER BY <of>a<desc>, <of>b<desc>"}
	case "describe":
		return []string{"<make>", "<make>", "<make>", "<make>", "<make>", "<make>", "DROP TABLE <table>", "DROP INDEX <index>", "DROP INDEX <index>", "DROP INDEX <index>", "<index it>", "<index it>", "<index it>"}
	case "make":
		return []string{"CREATE TABLE <table> (a INT<nn>, b INT<nn>, r REAL<nn>, s TEXT<nn>, f BOOL<nn>)", "CREATE TABLE <table> (a INT, b INT, r REAL, s TEXT, f BOOL)"}
	case "index it":
		return []string{"CREATE INDEX <index> ON <table> (<columns>)", "CREATE UNIQUE INDEX <index> ON <table> (<columns>)", "CREATE UNIQUE INDEX <index> ON <table> (<columns>)"}
	case "wrong":
		return []string{"nonsense", "", "SELECT 'x", "SELECT a FROM", "SELECT a FROM w", "SELECT z FROM t", "DELETE FROM sysindexes", "INSERT INTO t VALUES (1)", "UPDATE t SET a = 'x'", "SELECT a + s FROM t", "BEGIN 1"}
	case "system":
		return []string{"SELECT name FROM systables", "SELECT x.name, y.name, pos, required FROM systables AS x JOIN syscolumns AS y ON x.name = y.tbl", "SELECT * FROM sysindexes"}
	}
	return nil
}

// maker makes texts of statements at random.
type maker struct {
	*rand.Rand
	names []string // under which the sources stand; none: there are no columns to name
}

func newMaker(seed uint64) *maker { return &maker{Rand: rand.New(rand.NewPCG(seed, 27))} }

var (
	anyPart  = regexp.MustCompile("<[a-z ]+>")
	deepPart = regexp.MustCompile("<(int|real|text|bool|test)>")
)

// write writes a part at random, with so many others in one another.
func (g *maker) write(part string, depth int) string {
	ways := slices.DeleteFunc(waysOf(part), func(way string) bool {
		return len(g.names) == 0 && strings.Contains(way, "<of>") || depth <= 0 && deepPart.MatchString(way)
	})
	if len(ways) == 0 {
		return "NULL"
	}
	return anyPart.ReplaceAllStringFunc(ways[g.IntN(len(ways))], func(s string) string {
		if s == "<of>" {
			return g.names[g.IntN(len(g.names))]
		}
		return g.write(strings.Trim(s, "<>"), depth-1)
	})
}

// query writes a query; of some all that it answers is sorted by.
func (g *maker) query() string {
	g.names = nil
	from := ""
	for i := range 1 + g.IntN(3) {
		name := fmt.Sprint("x", i)
		g.names = append(g.names, name+".")
		if i > 0 {
			from += " JOIN "
		}
		from += g.write("table", 0) + " AS " + name
		if i > 0 {
			from += " ON " + g.write([]string{"test", "bool"}[g.IntN(2)], 2)
		}
	}
	from += g.write("where", 3)
	if g.IntN(2) == 0 {
		return "SELECT " + g.write("items", 3) + " FROM " + from + g.write("order", 3)
	}
	var items, sorts []string
	for range 1 + g.IntN(3) {
		item := g.write("any", 2)
		items, sorts = append(items, item), append(sorts, item+g.write("desc", 0))
	}
	g.Shuffle(len(sorts), func(i, j int) { sorts[i], sorts[j] = sorts[j], sorts[i] })
	return "SELECT " + strings.Join(items, ", ") + " FROM " + from + " ORDER BY " + strings.Join(sorts, ", ")
}

// statement writes a statement of any kind.
func (g *maker) statement() string {
	switch n := g.IntN(40); {
	case n < 2:
		return "BEGIN"
	case n < 4:
		return []string{"COMMIT", "COMMIT", "ROLLBACK"}[g.IntN(3)]
	case n < 5:
		return g.write("wrong", 0)
	case n < 6:
		return g.write("system", 0)
	case n < 9:
		return g.write("describe", 1)
	case n < 17:
		g.names = nil
		return "INSERT INTO " + g.write("table", 0) + " VALUES " + g.write("rows", 4)
	case n < 24:
		g.names = []string{""}
		return "UPDATE " + g.write("table", 0) + " SET " + g.write("set", 3) + g.write("where", 3)
	case n < 27:
		g.names = []string{""}
		return "DELETE FROM " + g.write("table", 0) + g.write("few", 4)
	}
	return g.query()
}
