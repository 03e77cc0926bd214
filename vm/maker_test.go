package vm_test

import (
	"math/rand/v2"
	"strconv"
	"strings"

	"hasp/api"
)

// maker makes tables with rows, and texts of statements over them, at random.
type maker struct {
	*rand.Rand
	over []spot // the sources of the statement that is being made
}

// spot is a source under its name.
type spot struct {
	name string
	cols []api.Column
}

func newMaker(seed uint64) *maker { return &maker{Rand: rand.New(rand.NewPCG(seed, 24))} }

func (g *maker) odds(n int) bool { return g.IntN(n) == 0 }

func pick[T any](g *maker, list ...T) T { return list[g.IntN(len(list))] }

// desc makes a description with some indexes.
func (g *maker) desc(name string) api.Table {
	t := api.Table{Name: name}
	for i := range 1 + g.IntN(3) {
		c := api.Column{Name: string(rune('a' + i)), Type: pick(g, api.Int, api.Int, api.Int, api.Real, api.Text, api.Bool), Required: g.odds(5)}
		t.Cols = append(t.Cols, c)
	}
	for i := range pick(g, 0, 1, 1, 2, 2, 3) {
		x := api.Index{Name: name + strconv.Itoa(i), Unique: g.odds(2), Cols: g.Perm(len(t.Cols))[:1+g.IntN(pick(g, 1, len(t.Cols)))]}
		t.Indexes = append(t.Indexes, x)
	}
	return t
}

// value makes a value for a column.
func (g *maker) value(c api.Column) api.Value {
	if g.odds(6) && !c.Required {
		return api.Value{}
	}
	v := api.Value{Kind: c.Type}
	switch c.Type {
	case api.Bool:
		v.Num = g.Int64N(2)
	case api.Int:
		v.Num = pick[int64](g, -1, 0, 1, 2, 3, 4, 5, 9223372036854775807)
	case api.Real: // -1, -0, 0, 0.5, 2, infinity, NaN
		v.Num = pick[int64](g, -0x4010000000000000, -0x8000000000000000, 0, 0x3fe0000000000000, 0x4000000000000000, 0x7ff0000000000000, 0x7ff8000000000000)
	case api.Text:
		v.Text = pick(g, "", "x", "xy", "y", "\x00")
	}
	return v
}

// lay makes tables with some rows, of which some went again.
func (g *maker) lay(w *world, most int) {
	for _, name := range []string{"t", "u", "v"} {
		d := g.desc(name)
		txn := w.x.Begin()
		w.is("Make", w.x.Make(txn, d))
		for range g.IntN(most + 1) {
			var row []api.Value
			for _, c := range d.Cols {
				row = append(row, g.value(c))
			}
			w.x.Apply(txn, name, []api.Change{{Row: row}})
		}
		if g.odds(3) {
			w.x.Apply(txn, name, []api.Change{{Id: 1, Del: true}})
		}
		w.commit(txn)
	}
}

// constant makes a constant of a type.
func (g *maker) constant(kind int) string {
	switch kind {
	case api.Bool:
		return pick(g, "TRUE", "FALSE")
	case api.Int:
		return pick(g, "0", "1", "2", "3", "4", "(-1)", "9223372036854775807")
	case api.Real:
		return pick(g, "0.0", "(-0.0)", "0.5", "2.0", "NAN", "INFINITY", "(-1.0)")
	case api.Text:
		return pick(g, "''", "'x'", "'xy'", "'y'")
	}
	return "NULL"
}

// column gives a column of a type, if a source has one.
func (g *maker) column(kind int) string {
	var all []string
	for _, s := range g.over {
		for _, c := range s.cols {
			if c.Type == kind {
				all = append(all, s.name+"."+c.Name)
			}
		}
	}
	if len(all) == 0 {
		return g.constant(kind)
	}
	return pick(g, all...)
}

// expr makes an expression of a type; few are NULL, and some meet errors.
func (g *maker) expr(kind, depth int) string {
	if g.odds(25) {
		return "NULL"
	}
	if depth == 0 || g.odds(3) {
		return pick(g, g.constant, g.column, g.column)(kind)
	}
	both := func(ops ...string) string {
		return "(" + g.expr(kind, depth-1) + pick(g, ops...) + g.expr(kind, depth-1) + ")"
	}
	switch kind {
	case api.Bool:
		return g.condition(depth)
	case api.Int:
		return pick(g, both(" + ", " - ", " * ", " / ", " % "), "(- "+g.expr(kind, depth-1)+")", "INT("+g.expr(pick(g, api.Bool, api.Real), depth-1)+")")
	case api.Real:
		return pick(g, both(" + ", " - ", " * ", " / "), "REAL("+g.expr(api.Int, depth-1)+")")
	}
	return both(" || ")
}

// condition makes a condition.
func (g *maker) condition(depth int) string {
	if depth > 0 && g.odds(4) {
		return pick(g,
			"("+g.condition(depth-1)+pick(g, " AND ", " OR ")+g.condition(depth-1)+")",
			"(NOT "+g.condition(depth-1)+")",
			"("+g.expr(1+g.IntN(4), depth-1)+pick(g, " IS NULL)", " IS NOT NULL)"),
			g.column(api.Bool))
	}
	if g.odds(10) { // where there is such a column, a row with 0, or with the greatest number, meets an error
		return "(" + g.column(api.Int) + pick(g, " = ", " <= ", " <> ") + pick(g, "1 / ", "1 + ") + g.column(api.Int) + ")"
	}
	kind := pick(g, api.Bool, api.Int, api.Int, api.Int, api.Real, api.Text)
	left, right := g.column(kind), g.expr(kind, pick(g, 0, 0, max(depth-1, 0)))
	if g.odds(3) {
		left, right = right, left
	}
	return "(" + left + pick(g, " = ", " = ", " = ", " < ", " <= ", " > ", " >= ", " <> ") + right + ")"
}

// where makes some conditions beside each other.
func (g *maker) where() string {
	if g.odds(6) {
		return ""
	}
	var list []string
	for range 1 + g.IntN(3) {
		list = append(list, g.condition(2))
	}
	return " WHERE " + strings.Join(list, " AND ")
}

// query is a query's text; the last values of its rows are those by which they are sorted.
type query struct {
	text  string
	desc  []bool // empty: not sorted
	query bool
}

// statement makes a statement over the tables; of queries of no more than so many sources.
func (g *maker) statement(list []api.Table, sources int) query {
	t := pick(g, list...)
	g.over = []spot{{t.Name, t.Cols}}
	switch g.IntN(10) {
	case 0:
		return query{text: "DELETE FROM " + t.Name + g.where()}
	case 1, 2, 3:
		return query{text: "UPDATE " + t.Name + " SET " + g.sets(t) + g.where()}
	case 4, 5:
		g.over = nil
		return query{text: "INSERT INTO " + t.Name + " VALUES " + g.rows(t)}
	}
	return g.query(list, 1+g.IntN(sources))
}

func (g *maker) sets(t api.Table) string {
	var sets []string
	for _, c := range g.Perm(len(t.Cols))[:1+g.IntN(len(t.Cols))] {
		sets = append(sets, t.Cols[c].Name+" = "+g.expr(t.Cols[c].Type, g.IntN(3)))
	}
	return strings.Join(sets, ", ")
}

func (g *maker) rows(t api.Table) string {
	var list []string
	for range pick(g, 1, 1, 2, 3) {
		var row []string
		for _, c := range t.Cols {
			row = append(row, g.expr(c.Type, pick(g, 0, 0, 1, 2)))
		}
		list = append(list, "("+strings.Join(row, ", ")+")")
	}
	return strings.Join(list, ", ")
}

// query makes a query.
func (g *maker) query(list []api.Table, sources int) query {
	g.over = nil
	from := ""
	for i := range sources {
		t := pick(g, list...)
		name := "x" + strconv.Itoa(i)
		g.over = append(g.over, spot{name, t.Cols})
		if i > 0 {
			from += " JOIN "
		}
		from += t.Name + " AS " + name
		if i > 0 {
			from += " ON " + pick(g, g.condition(2), g.condition(1), "TRUE")
		}
	}
	if g.odds(3) {
		return query{text: "SELECT * FROM " + from + g.where(), query: true}
	}
	items := []string{g.expr(1+g.IntN(4), 2)}
	var sorts []string
	q := query{query: true}
	for range g.IntN(3) {
		e, desc := g.expr(pick(g, api.Int, api.Int, api.Real, api.Text, api.Bool), g.IntN(2)), g.odds(2)
		items, q.desc = append(items, e), append(q.desc, desc)
		if desc {
			e += " DESC"
		}
		sorts = append(sorts, e)
	}
	q.text = "SELECT " + strings.Join(items, ", ") + " FROM " + from + g.where()
	if len(sorts) > 0 {
		q.text += " ORDER BY " + strings.Join(sorts, ", ")
	}
	return q
}
