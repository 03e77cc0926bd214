package bind_test

import (
	"fmt"
	"slices"
	"strconv"
	"testing"

	"hasp/api"
	"hasp/bind"
	"hasp/parse"
)

// judge checks right statements by the chapter's words: it goes through them to their ends and notes every fault, of which the first one counts.
type judge struct {
	tables []api.Table
	faults []api.Errno
}

// spot is a source: its name, and its table's columns.
type spot struct {
	name string
	cols []api.Column
}

func (j *judge) hold(wrong bool, code api.Errno) {
	if wrong {
		j.faults = append(j.faults, code)
	}
}

// systems is the system tables, as layer 15's chapter has them.
func systems() []api.Table {
	c := func(name string, kind int) api.Column { return api.Column{Name: name, Type: kind, Required: true} }
	return []api.Table{
		{Name: "systables", Cols: []api.Column{c("name", api.Text)}},
		{Name: "syscolumns", Cols: []api.Column{c("tbl", api.Text), c("pos", api.Int), c("name", api.Text), c("type", api.Text), c("required", api.Bool)}},
		{Name: "sysindexes", Cols: []api.Column{c("name", api.Text), c("tbl", api.Text), c("uniq", api.Bool), c("cols", api.Text)}},
	}
}

// judged gives what Bind is to answer to a right statement.
func judged(st api.Stmt, tables []api.Table) (api.Term, api.Errno) {
	j := &judge{tables: append(systems(), tables...)}
	t := j.term(st)
	if len(j.faults) > 0 {
		return api.Term{}, j.faults[0]
	}
	return t, api.OK
}

// table gives the table of that name, and whether there is one.
func (j *judge) table(name string) (api.Table, bool) {
	for _, t := range j.tables {
		if t.Name == name {
			return t, true
		}
	}
	return api.Table{}, false
}

// target gives a table that is changed.
func (j *judge) target(name string) api.Table {
	t, ok := j.table(name)
	j.hold(!ok, api.ErrTable)
	j.hold(slices.Contains([]string{"systables", "syscolumns", "sysindexes"}, name), api.ErrSystem)
	return t
}

// index gives the table that has an index of that name, and the index.
func (j *judge) index(name string) (tables []api.Table, x api.Index) {
	for _, t := range j.tables {
		for _, other := range t.Indexes {
			if other.Name == name {
				tables, x = append(tables, t), other
			}
		}
	}
	return tables, x
}

// colOf gives the place of a column, or -1.
func colOf(cols []api.Column, name string) int {
	for i, c := range cols {
		if c.Name == name {
			return i
		}
	}
	return -1
}

func (j *judge) term(st api.Stmt) api.Term {
	t := api.Term{Kind: st.Kind}
	switch st.Kind {
	case api.StCreateTable:
		_, ok := j.table(st.Table)
		j.hold(ok, api.ErrExists)
		for i, c := range st.Cols {
			j.hold(colOf(st.Cols[:i], c.Name) >= 0, api.ErrExists)
		}
		t.Tables = []api.Table{{Name: st.Table, Cols: st.Cols}}
	case api.StDropTable:
		t.Tables = []api.Table{j.target(st.Table)}
	case api.StCreateIndex:
		j.newIndex(st, &t)
	case api.StDropIndex:
		t.Tables, t.Index = j.index(st.Index)
		j.hold(len(t.Tables) == 0, api.ErrIndex)
	case api.StInsert:
		j.newRows(st, &t)
	case api.StSelect:
		j.query(st, &t)
	case api.StUpdate:
		j.newValues(st, &t)
	case api.StDelete:
		x := j.target(st.Table)
		t.Tables, t.Conds = []api.Table{x}, j.where(st.Where, []spot{{x.Name, x.Cols}})
	}
	return t
}

func (j *judge) newIndex(st api.Stmt, t *api.Term) {
	x := j.target(st.Table)
	have, _ := j.index(st.Index)
	j.hold(len(have) > 0, api.ErrExists)
	j.hold(len(x.Indexes) >= 8, api.ErrMany)
	t.Index = api.Index{Name: st.Index, Unique: st.Unique}
	for i, name := range st.Names {
		j.hold(colOf(x.Cols, name) < 0, api.ErrColumn)
		j.hold(slices.Contains(st.Names[:i], name), api.ErrExists)
		t.Index.Cols = append(t.Index.Cols, colOf(x.Cols, name))
	}
	t.Tables = []api.Table{x}
}

// stored judges an expression whose value goes into a column.
func (j *judge) stored(e api.Expr, over []spot, c api.Column) api.Code {
	code := j.expr(e, over)
	j.hold(code.Type != api.Null && code.Type != c.Type, api.ErrType)
	return code
}

func (j *judge) newRows(st api.Stmt, t *api.Term) {
	x := j.target(st.Table)
	t.Tables = []api.Table{x}
	for _, row := range st.Rows {
		var codes []api.Code
		if len(row) != len(x.Cols) {
			j.hold(true, api.ErrArity)
			return
		}
		for i, e := range row {
			codes = append(codes, j.stored(e, nil, x.Cols[i]))
		}
		t.Rows = append(t.Rows, codes)
	}
}

func (j *judge) newValues(st api.Stmt, t *api.Term) {
	x := j.target(st.Table)
	over := []spot{{x.Name, x.Cols}}
	given := map[string]api.Code{}
	for _, set := range st.Sets {
		at := colOf(x.Cols, set.Col)
		if at < 0 {
			j.hold(true, api.ErrColumn)
			return
		}
		_, met := given[set.Col]
		j.hold(met, api.ErrExists)
		given[set.Col] = j.stored(set.E, over, x.Cols[at])
	}
	var row []api.Code
	for i, c := range x.Cols {
		code, ok := given[c.Name]
		if !ok {
			code = api.Code{Op: api.OpColumn, Type: c.Type, Col: i}
		}
		row = append(row, code)
	}
	t.Tables, t.Rows, t.Conds = []api.Table{x}, [][]api.Code{row}, j.where(st.Where, over)
}

func (j *judge) query(st api.Stmt, t *api.Term) {
	var over []spot
	for _, s := range st.From {
		x, ok := j.table(s.Table)
		j.hold(!ok, api.ErrTable)
		name := s.Table
		if s.Alias != "" {
			name = s.Alias
		}
		j.hold(slices.ContainsFunc(over, func(o spot) bool { return o.name == name }), api.ErrExists)
		over, t.Tables = append(over, spot{name, x.Cols}), append(t.Tables, x)
	}
	for i := 1; i < len(over); i++ {
		t.Conds = append(t.Conds, j.condition(st.From[i].On, over[:i+1]))
	}
	for _, item := range st.Items {
		name := item.Name
		if name == "" && item.E.Op == api.OpColumn {
			name = item.E.Text
		}
		t.Items, t.Names = append(t.Items, j.expr(item.E, over)), append(t.Names, name)
	}
	for tab, s := range over {
		for col, c := range s.cols {
			if len(st.Items) == 0 {
				t.Items, t.Names = append(t.Items, api.Code{Op: api.OpColumn, Type: c.Type, Tab: tab, Col: col}), append(t.Names, c.Name)
			}
		}
	}
	t.Conds = append(t.Conds, j.where(st.Where, over)...)
	for _, s := range st.Order {
		t.Order, t.Desc = append(t.Order, j.expr(s.E, over)), append(t.Desc, s.Desc)
	}
}

func (j *judge) where(e api.Expr, over []spot) []api.Code {
	if e.Op == 0 {
		return nil
	}
	return []api.Code{j.condition(e, over)}
}

func (j *judge) condition(e api.Expr, over []spot) api.Code {
	c := j.expr(e, over)
	j.hold(c.Type != api.Bool && c.Type != api.Null, api.ErrType)
	return c
}

func (j *judge) expr(e api.Expr, over []spot) api.Code {
	switch e.Op {
	case api.OpConst:
		return api.Code{Op: e.Op, Type: e.Kind, Val: written(e)}
	case api.OpColumn:
		return j.column(e, over)
	}
	c := api.Code{Op: e.Op}
	var types []int
	for _, a := range e.Args {
		c.Args = append(c.Args, j.expr(a, over))
		types = append(types, c.Args[len(c.Args)-1].Type)
	}
	kind, ok := typed(e.Op, types)
	j.hold(!ok, api.ErrType)
	c.Type = kind
	return c
}

func (j *judge) column(e api.Expr, over []spot) api.Code {
	var found []api.Code
	for tab, s := range over {
		if e.Qual != "" && e.Qual != s.name {
			continue
		}
		if col := colOf(s.cols, e.Text); col >= 0 {
			found = append(found, api.Code{Op: e.Op, Type: s.cols[col].Type, Tab: tab, Col: col})
		}
	}
	j.hold(len(found) == 0, api.ErrColumn)
	j.hold(len(found) > 1, api.ErrAmbiguous)
	return append(found, api.Code{})[0]
}

// written gives the value that a constant tells, reals read by the library.
func written(e api.Expr) api.Value {
	v := api.Value{Kind: e.Kind, Num: e.Num, Text: e.Text}
	switch {
	case e.Kind != api.Real:
	case e.Scale == api.ScaleNaN:
		v.Num = 0x7ff8000000000000
	case e.Scale == api.ScaleInf:
		v.Num = 0x7ff0000000000000
	default:
		f, _ := strconv.ParseFloat(strconv.FormatInt(e.Num, 10)+"e-"+strconv.Itoa(e.Scale), 64)
		v.Num = bitsOf(f)
	}
	return v
}

// signatures gives the types that an operator takes, each row with the answer's behind them.
func signatures(op int) [][]int {
	const b, i, r, t = api.Bool, api.Int, api.Real, api.Text
	switch op {
	case api.OpEq, api.OpNe, api.OpLt, api.OpLe, api.OpGt, api.OpGe:
		return [][]int{{b, b, b}, {i, i, b}, {r, r, b}, {t, t, b}}
	case api.OpAdd, api.OpSub, api.OpMul, api.OpDiv:
		return [][]int{{i, i, i}, {r, r, r}}
	case api.OpMod:
		return [][]int{{i, i, i}}
	case api.OpCat:
		return [][]int{{t, t, t}}
	case api.OpNeg:
		return [][]int{{i, i}, {r, r}}
	case api.OpToInt:
		return [][]int{{b, i}, {i, i}, {r, i}}
	case api.OpToReal:
		return [][]int{{i, r}, {r, r}}
	case api.OpNot:
		return [][]int{{b, b}}
	case api.OpAnd, api.OpOr:
		return [][]int{{b, b, b}}
	}
	return [][]int{{b, b}, {i, b}, {r, b}, {t, b}}
}

// typed gives the one answer that is left where Null stands for any type.
func typed(op int, types []int) (int, bool) {
	answers := map[int]int{}
	for _, s := range signatures(op) {
		fits := len(s) == len(types)+1
		for k, kind := range types {
			fits = fits && (kind == api.Null || kind == s[k])
		}
		if fits {
			answers[s[len(types)]]++
		}
	}
	if len(answers) != 1 {
		return 0, false
	}
	for kind := range answers {
		return kind, true
	}
	return 0, false
}

// same tells whether two answers read alike; a list without elements reads as a nil one.
func same(a, b any) bool { return fmt.Sprintf("%+v", a) == fmt.Sprintf("%+v", b) }

// check holds Bind's answer against another one; what names the statement, else it is shown itself.
func check(t *testing.T, what string, st api.Stmt, tables []api.Table, want api.Term, code api.Errno) {
	t.Helper()
	got, e := bind.Bind(st, tables)
	if e != code || !same(got, want) {
		if what == "" {
			what = fmt.Sprintf("%+v", st)
		}
		t.Errorf("%s: %+v, %d, not %+v, %d", what, got, e, want, code)
	}
}

// read gives a statement by its text.
func read(t *testing.T, s string) api.Stmt {
	t.Helper()
	st, e := parse.Parse(s)
	if e != api.OK {
		t.Fatalf("%s: %d", s, e)
	}
	return st
}
