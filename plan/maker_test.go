package plan_test

import (
	"math/rand/v2"
	"strconv"
	"strings"

	"hasp/api"
	"hasp/table"
)

// maker makes tables with rows, and texts of statements over them, at random.
type maker struct {
	*rand.Rand
	over []spot // the sources of the statement that is being made
}

// spot is a source under its name.
type spot struct {
	name string
	cols []api.Column
}

func newMaker(seed uint64) *maker { return &maker{Rand: rand.New(rand.NewPCG(seed, 23))} }

func (g *maker) odds(n int) bool { return g.IntN(n) == 0 }

func pick[T any](g *maker, list ...T) T { return list[g.IntN(len(list))] }

// desc makes a description with some indexes.
func (g *maker) desc(name string) api.Table {
	t := api.Table{Name: name}
	for i := range 1 + g.IntN(4) {
		c := api.Column{Name: string(rune('a' + i)), Type: pick(g, api.Int, api.Int, api.Real, api.Text, api.Bool), Required: g.odds(5)}
		t.Cols = append(t.Cols, c)
	}
	for i := range pick(g, 0, 1, 2, 2, 3, 4) {
		x := api.Index{Name: name + strconv.Itoa(i), Unique: g.odds(2), Cols: g.Perm(len(t.Cols))[:1+g.IntN(pick(g, 1, len(t.Cols)))]}
		t.Indexes = append(t.Indexes, x)
	}
	return t
}

// value makes a value for a column.
func (g *maker) value(c api.Column) api.Value {
	if g.odds(6) && !c.Required {
		return api.Value{}
	}
	v := api.Value{Kind: c.Type}
	switch c.Type {
	case api.Bool:
		v.Num = g.Int64N(2)
	case api.Int:
		v.Num = pick[int64](g, -1, 0, 1, 2, 3, 9223372036854775807)
	case api.Real: // -1, -0, 0, 0.5, 2, infinity, NaN
		v.Num = pick[int64](g, -0x4010000000000000, -0x8000000000000000, 0, 0x3fe0000000000000, 0x4000000000000000, 0x7ff0000000000000, 0x7ff8000000000000)
	case api.Text:
		v.Text = pick(g, "", "x", "xy", "y", "\x00")
	}
	return v
}

// tables makes three tables with some rows, of which some went again.
func (g *maker) tables(most int) (store, []api.Table) {
	s := store{}
	var list []api.Table
	for _, name := range []string{"t", "u", "v"} {
		desc := g.desc(name)
		t, code := table.New(desc)
		if code != api.OK {
			panic(code)
		}
		for range g.IntN(most + 1) {
			var row []api.Value
			for _, c := range desc.Cols {
				row = append(row, g.value(c))
			}
			t.Apply([]api.Change{{Row: row}})
		}
		if g.odds(3) {
			t.Apply([]api.Change{{Id: 1, Del: true}})
		}
		s[name] = t
		list = append(list, desc)
	}
	return s, list
}

// constant makes a constant of a type.
func (g *maker) constant(kind int) string {
	switch kind {
	case api.Bool:
		return pick(g, "TRUE", "FALSE")
	case api.Int:
		return pick(g, "0", "1", "2", "3", "(-1)", "9223372036854775807")
	case api.Real:
		return pick(g, "0.0", "(-0.0)", "0.5", "2.0", "NAN", "INFINITY", "(-1.0)")
	case api.Text:
		return pick(g, "''", "'x'", "'xy'", "'y'")
	}
	return "NULL"
}

// column gives a column of a type, if a source has one.
func (g *maker) column(kind int) string {
	var all []string
	for _, s := range g.over {
		for _, c := range s.cols {
			if c.Type == kind {
				all = append(all, s.name+"."+c.Name)
			}
		}
	}
	if len(all) == 0 {
		return g.constant(kind)
	}
	return pick(g, all...)
}

// expr makes an expression of a type; few are NULL, and some meet errors.
func (g *maker) expr(kind, depth int) string {
	if g.odds(25) {
		return "NULL"
	}
	if depth == 0 || g.odds(3) {
		return pick(g, g.constant, g.column, g.column)(kind)
	}
	both := func(ops ...string) string {
		return "(" + g.expr(kind, depth-1) + pick(g, ops...) + g.expr(kind, depth-1) + ")"
	}
	switch kind {
	case api.Bool:
		return g.condition(depth)
	case api.Int:
		return pick(g, both(" + ", " - ", " * ", " / ", " % "), "(- "+g.expr(kind, depth-1)+")", "INT("+g.expr(pick(g, api.Bool, api.Real), depth-1)+")")
	case api.Real:
		return pick(g, both(" + ", " - ", " * ", " / "), "REAL("+g.expr(api.Int, depth-1)+")")
	}
	return both(" || ")
}

// condition makes a condition.
func (g *maker) condition(depth int) string {
	if depth > 0 && g.odds(4) {
		return pick(g,
			"("+g.condition(depth-1)+pick(g, " AND ", " OR ")+g.condition(depth-1)+")",
			"(NOT "+g.condition(depth-1)+")",
			"("+g.expr(1+g.IntN(4), depth-1)+pick(g, " IS NULL)", " IS NOT NULL)"),
			g.column(api.Bool))
	}
	if g.odds(8) { // where there is such a column, a row with 0, or with the greatest number, meets an error
		return "(" + g.column(api.Int) + pick(g, " = ", " <= ", " <> ") + pick(g, "1 / ", "1 + ") + g.column(api.Int) + ")"
	}
	kind := pick(g, api.Bool, api.Int, api.Int, api.Real, api.Text)
	left, right := g.column(kind), g.expr(kind, pick(g, 0, 0, max(depth-1, 0)))
	if g.odds(3) {
		left, right = right, left
	}
	return "(" + left + pick(g, " = ", " = ", " = ", " < ", " <= ", " > ", " >= ", " <> ") + right + ")"
}

// conditions makes some conditions beside each other.
func (g *maker) conditions() string {
	var list []string
	for range 1 + g.IntN(4) {
		list = append(list, g.condition(2))
	}
	return strings.Join(list, " AND ")
}

func (g *maker) where() string {
	if g.odds(6) {
		return ""
	}
	return " WHERE " + g.conditions()
}

// statement makes a statement over the tables.
func (g *maker) statement(list []api.Table) string {
	t := pick(g, list...)
	g.over = []spot{{t.Name, t.Cols}}
	switch g.IntN(10) {
	case 0, 1:
		return "DELETE FROM " + t.Name + g.where()
	case 2, 3, 4:
		return "UPDATE " + t.Name + " SET " + g.sets(t) + g.where()
	case 5:
		g.over = nil
		return "INSERT INTO " + t.Name + " VALUES " + g.rows(t)
	}
	return g.query(list)
}

func (g *maker) sets(t api.Table) string {
	var sets []string
	for _, col := range g.Perm(len(t.Cols))[:1+g.IntN(len(t.Cols))] {
		c := t.Cols[col]
		sets = append(sets, c.Name+" = "+g.expr(c.Type, 2))
	}
	return strings.Join(sets, ", ")
}

func (g *maker) rows(t api.Table) string {
	var list []string
	for range 1 + g.IntN(3) {
		var row []string
		for _, c := range t.Cols {
			row = append(row, g.expr(c.Type, g.IntN(3)))
		}
		list = append(list, "("+strings.Join(row, ", ")+")")
	}
	return strings.Join(list, ", ")
}

// query makes a query of one to four sources.
func (g *maker) query(list []api.Table) string {
	g.over = nil
	from := ""
	for i := range pick(g, 1, 1, 2, 2, 2, 3, 3, 4) {
		t := pick(g, list...)
		name := "x" + strconv.Itoa(i)
		g.over = append(g.over, spot{name, t.Cols})
		if i > 0 {
			from += " JOIN "
		}
		from += t.Name + " AS " + name
		if i > 0 {
			from += " ON " + pick(g, g.conditions(), "TRUE")
		}
	}
	items := "*"
	if g.odds(2) {
		items = g.expr(1+g.IntN(4), 2) + ", " + g.column(api.Int)
	}
	s := "SELECT " + items + " FROM " + from + g.where()
	if g.odds(2) {
		s += " ORDER BY " + g.expr(1+g.IntN(4), 1) + pick(g, "", " DESC") + ", " + g.column(api.Int) + pick(g, "", " DESC")
	}
	return s
}
