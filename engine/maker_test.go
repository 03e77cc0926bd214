package engine_test

import (
	"math/rand/v2"
	"strconv"
	"strings"

	"hasp/api"
	"hasp/schema"
)

// maker makes texts of statements at random.
type maker struct {
	*rand.Rand
	over []spot // the sources of the statement that is being made
}

// spot is a source under its name.
type spot struct {
	name string
	cols []api.Column
}

func newMaker(seed uint64) *maker { return &maker{Rand: rand.New(rand.NewPCG(seed, 25))} }

func (g *maker) odds(n int) bool { return g.IntN(n) == 0 }

func pick[T any](g *maker, list ...T) T { return list[g.IntN(len(list))] }

// constant makes a constant of a type.
func (g *maker) constant(kind int) string {
	switch kind {
	case api.Bool:
		return pick(g, "TRUE", "FALSE")
	case api.Int:
		return pick(g, "0", "1", "2", "3", "4", "(-1)", "9223372036854775807")
	case api.Real:
		return pick(g, "0.0", "(-0.0)", "0.5", "2.0", "NAN", "INFINITY", "(-1.0)")
	case api.Text:
		return pick(g, "''", "'x'", "'xy'", "'y'")
	}
	return "NULL"
}

// column gives a column of a type, if a source has one.
func (g *maker) column(kind int) string {
	var all []string
	for _, s := range g.over {
		for _, c := range s.cols {
			if c.Type == kind {
				all = append(all, s.name+"."+c.Name)
			}
		}
	}
	if len(all) == 0 {
		return g.constant(kind)
	}
	return pick(g, all...)
}

// expr makes an expression of a type; few are NULL, and some meet errors.
func (g *maker) expr(kind, depth int) string {
	if g.odds(25) {
		return "NULL"
	}
	if depth == 0 || g.odds(3) {
		return pick(g, g.constant, g.column, g.column)(kind)
	}
	both := func(ops ...string) string {
		return "(" + g.expr(kind, depth-1) + pick(g, ops...) + g.expr(kind, depth-1) + ")"
	}
	switch kind {
	case api.Bool:
		return g.condition(depth)
	case api.Int:
		return pick(g, both(" + ", " - ", " * ", " / ", " % "), "(- "+g.expr(kind, depth-1)+")", "INT("+g.expr(pick(g, api.Bool, api.Real), depth-1)+")")
	case api.Real:
		return pick(g, both(" + ", " - ", " * ", " / "), "REAL("+g.expr(api.Int, depth-1)+")")
	}
	return both(" || ")
}

// condition makes a condition.
func (g *maker) condition(depth int) string {
	if depth > 0 && g.odds(4) {
		return pick(g,
			"("+g.condition(depth-1)+pick(g, " AND ", " OR ")+g.condition(depth-1)+")",
			"(NOT "+g.condition(depth-1)+")",
			"("+g.expr(1+g.IntN(4), depth-1)+pick(g, " IS NULL)", " IS NOT NULL)"),
			g.column(api.Bool))
	}
	if g.odds(10) { // where there is such a column, a row with 0, or with the greatest number, meets an error
		return "(" + g.column(api.Int) + pick(g, " = ", " <= ", " <> ") + pick(g, "1 / ", "1 + ") + g.column(api.Int) + ")"
	}
	kind := pick(g, api.Bool, api.Int, api.Int, api.Int, api.Real, api.Text)
	left, right := g.column(kind), g.expr(kind, pick(g, 0, 0, max(depth-1, 0)))
	if g.odds(3) {
		left, right = right, left
	}
	return "(" + left + pick(g, " = ", " = ", " = ", " < ", " <= ", " > ", " >= ", " <> ") + right + ")"
}

// where makes some conditions beside each other.
func (g *maker) where() string {
	if g.odds(6) {
		return ""
	}
	var list []string
	for range 1 + g.IntN(3) {
		list = append(list, g.condition(2))
	}
	return " WHERE " + strings.Join(list, " AND ")
}

// query is a statement's text; the last values of a query's rows are those by which they are sorted.
type query struct {
	text string
	desc []bool // empty: not sorted
}

// The names that statements have.
var (
	tableNames = []string{"t", "u", "v"}
	indexNames = []string{"i", "j", "k", "l"}
)

// statement makes a statement over the tables; of queries of no more than so many sources.
func (g *maker) statement(list []api.Table, sources int) query {
	if g.odds(40) {
		list = schema.System()
	}
	if g.odds(10) || len(list) == 0 {
		return query{text: g.describing(list)}
	}
	t := pick(g, list...)
	g.over = []spot{{t.Name, t.Cols}}
	switch g.IntN(10) {
	case 0:
		return query{text: "DELETE FROM " + t.Name + g.where()}
	case 1, 2, 3:
		return query{text: "UPDATE " + t.Name + " SET " + g.sets(t) + g.where()}
	case 4, 5, 6:
		g.over = nil
		return query{text: "INSERT INTO " + t.Name + " VALUES " + g.rows(t)}
	}
	return g.query(list, 1+g.IntN(sources))
}

// describing makes a statement that makes or drops something; some can't be done.
func (g *maker) describing(list []api.Table) string {
	if g.odds(15) {
		list = schema.System()
	}
	switch g.IntN(9) {
	case 0, 1, 2:
		if len(list) == 0 || g.odds(2) {
			return g.table(pick(g, tableNames...))
		}
	case 3:
		return "DROP TABLE " + pick(g, tableNames...)
	case 4:
		return "DROP INDEX " + pick(g, indexNames...)
	}
	if len(list) == 0 {
		return "CREATE INDEX i ON t (a)"
	}
	return g.index(pick(g, list...))
}

// table makes the statement that makes a table.
func (g *maker) table(name string) string {
	var cols []string
	for i := range 1 + g.IntN(3) {
		cols = append(cols, string(rune('a'+i))+pick(g, " INT", " INT", " INT", " REAL", " TEXT", " BOOL")+pick(g, "", "", "", " NOT NULL"))
	}
	return "CREATE TABLE " + name + " (" + strings.Join(cols, ", ") + ")"
}

// index makes the statement that makes an index of a table.
func (g *maker) index(t api.Table) string {
	var cols []string
	for _, c := range g.Perm(len(t.Cols))[:1+g.IntN(len(t.Cols))] {
		cols = append(cols, t.Cols[c].Name)
	}
	return pick(g, "CREATE INDEX ", "CREATE UNIQUE INDEX ") + pick(g, indexNames...) + " ON " + t.Name + " (" + strings.Join(cols, ", ") + ")"
}

func (g *maker) sets(t api.Table) string {
	var sets []string
	for _, c := range g.Perm(len(t.Cols))[:1+g.IntN(len(t.Cols))] {
		sets = append(sets, t.Cols[c].Name+" = "+g.expr(t.Cols[c].Type, g.IntN(3)))
	}
	return strings.Join(sets, ", ")
}

func (g *maker) rows(t api.Table) string {
	var list []string
	for range pick(g, 1, 1, 2, 3) {
		var row []string
		for _, c := range t.Cols {
			row = append(row, g.expr(c.Type, pick(g, 0, 0, 1, 2)))
		}
		list = append(list, "("+strings.Join(row, ", ")+")")
	}
	return strings.Join(list, ", ")
}

// query makes a query.
func (g *maker) query(list []api.Table, sources int) query {
	g.over = nil
	from := ""
	for i := range sources {
		t := pick(g, list...)
		name := "x" + strconv.Itoa(i)
		g.over = append(g.over, spot{name, t.Cols})
		if i > 0 {
			from += " JOIN "
		}
		from += t.Name + " AS " + name
		if i > 0 {
			from += " ON " + pick(g, g.condition(2), g.condition(1), "TRUE")
		}
	}
	if g.odds(3) {
		return query{text: "SELECT * FROM " + from + g.where()}
	}
	items := []string{g.expr(1+g.IntN(4), 2)}
	var sorts []string
	q := query{}
	for range g.IntN(3) {
		e, desc := g.expr(pick(g, api.Int, api.Int, api.Real, api.Text, api.Bool), g.IntN(2)), g.odds(2)
		items, q.desc = append(items, e), append(q.desc, desc)
		if desc {
			e += " DESC"
		}
		sorts = append(sorts, e)
	}
	q.text = "SELECT " + strings.Join(items, ", ") + " FROM " + from + g.where()
	if len(sorts) > 0 {
		q.text += " ORDER BY " + strings.Join(sorts, ", ")
	}
	return q
}

// narrow makes a statement over t (a, b, c) that looks at few rows, and at those along an index mostly.
func (g *maker) narrow() query {
	n := func() string { return strconv.Itoa(g.IntN(16)) }
	where := func() string {
		column := pick(g, "a", "a", "b", "c")
		return pick(g,
			column+" = "+n(), column+" = "+n(),
			column+" >= "+n()+" AND "+column+pick(g, " < ", " <= ")+n(),
			column+" > "+n()+" AND "+column+" < "+n(),
			column+" < "+n(), column+" > "+n(),
			"b = "+n()+" AND c > "+n(), "b = "+n()+" AND c = "+n(), "a = NULL")
	}
	value := func() string {
		return pick(g, "a", "b", "c", n(), n(), "a + 1", "b - 1", "12 / (a - 3)", "NULL")
	}
	switch g.IntN(9) {
	case 0:
		return query{text: "DELETE FROM t WHERE " + where()}
	case 1, 2, 3:
		return query{text: "INSERT INTO t VALUES (" + n() + ", " + n() + ", " + n() + ")"}
	case 4, 5:
		return query{text: "UPDATE t SET " + pick(g, "a", "b", "c") + " = " + value() + " WHERE " + where()}
	case 6:
		return query{text: "SELECT x.b, y.a FROM t AS x JOIN t AS y ON y.a = x." + pick(g, "b", "c") + " WHERE x." + pick(g, "a", "b") + " = " + n()}
	}
	return query{text: "SELECT c, a FROM t WHERE " + where() + " ORDER BY a DESC", desc: []bool{true}}
}
