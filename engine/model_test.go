package engine_test

import (
	"cmp"
	"fmt"
	"slices"
	"strings"

	"hasp/api"
	"hasp/bind"
	"hasp/expr"
	"hasp/logic"
	"hasp/norm"
	"hasp/parse"
	"hasp/rows"
	"hasp/schema"
	"hasp/value"
)

// model is one session over tables in plain lists: what statements mean, without locks, plans and indexes.
type model struct {
	most           int
	tables         []held // by their names
	ahead          []held // what there was ahead of the transaction that BEGIN began
	txn            int    // that one; 0: none
	begun, commits int
}

// held is a table, with its rows.
type held struct {
	desc api.Table
	rows [][]api.Value
}

// do gives the reply to a statement.
func (m *model) do(text string) api.Reply {
	r := api.Reply{Text: text, Txn: m.txn}
	st, code := parse.Parse(text)
	switch {
	case code != api.OK:
		r.Code = code
	case st.Kind == api.StBegin && m.txn == 0:
		m.begun++
		m.txn, m.ahead = m.begun, m.copied()
		r.Txn = m.txn
	case st.Kind == api.StBegin, st.Kind >= api.StBegin && m.txn == 0:
		r.Code = api.ErrState
	case st.Kind == api.StCommit:
		m.commits++
		m.txn, r.Seq = 0, m.commits
	case st.Kind == api.StRollback:
		m.txn, m.tables = 0, m.ahead
	case m.txn != 0:
		m.means(st, &r)
	default:
		m.begun++
		m.commits++
		r.Txn, r.Seq = m.begun, m.commits
		m.means(st, &r)
	}
	return r
}

// copied gives a copy of all tables; their rows are never written over.
func (m *model) copied() []held {
	list := slices.Clone(m.tables)
	for i, x := range list {
		list[i].desc.Indexes = slices.Clone(x.desc.Indexes)
		list[i].rows = slices.Clone(x.rows)
	}
	return list
}

func (m *model) descs() []api.Table {
	var list []api.Table
	for _, x := range m.tables {
		list = append(list, x.desc)
	}
	return list
}

// means does what a statement means.
func (m *model) means(st api.Stmt, r *api.Reply) {
	x, code := bind.Bind(st, m.descs())
	switch {
	case code != api.OK:
		r.Code = code
	case x.Kind == api.StSelect:
		if r.Rows, r.Code = m.answer(x); r.Code == api.OK {
			r.Names = x.Names
		}
	case x.Kind >= api.StInsert:
		r.Count, r.Code = m.change(x)
	default:
		r.Code = m.describe(x)
	}
}

// describe makes or drops a table or an index.
func (m *model) describe(x api.Term) api.Errno {
	at, there := slices.BinarySearchFunc(m.tables, x.Tables[0].Name, func(h held, name string) int { return cmp.Compare(h.desc.Name, name) })
	switch {
	case !there && len(m.tables) >= 20:
		return api.ErrFull
	case !there:
		m.tables = slices.Insert(m.tables, at, held{desc: x.Tables[0]})
	case x.Kind == api.StDropTable:
		m.tables = slices.Delete(m.tables, at, at+1)
	case x.Kind == api.StCreateIndex:
		h := &m.tables[at]
		if hasAlike([]api.Index{x.Index}, h.rows) {
			return api.ErrUnique
		}
		h.desc.Indexes = append(h.desc.Indexes, x.Index)
	default:
		h := &m.tables[at]
		h.desc.Indexes = slices.DeleteFunc(h.desc.Indexes, func(i api.Index) bool { return i.Name == x.Index.Name })
	}
	return api.OK
}

// hasAlike tells whether two rows are alike in a unique index.
func hasAlike(indexes []api.Index, rows [][]api.Value) bool {
	for _, x := range indexes {
		for i, a := range rows {
			for _, b := range rows[:i] {
				unlike := func(c int) bool { return a[c].Kind == api.Null || value.Compare(a[c], b[c]) != 0 }
				if x.Unique && !slices.ContainsFunc(x.Cols, unlike) {
					return true
				}
			}
		}
	}
	return false
}

// rowsOf gives the rows of a table, of a system table too.
func (m *model) rowsOf(name string) [][]api.Value {
	var list [][]api.Value
	for _, x := range m.tables {
		switch name {
		case x.desc.Name:
			return x.rows
		case "systables":
			list = append(list, schema.TableRow(x.desc))
		case "syscolumns":
			list = append(list, schema.ColumnRows(x.desc)...)
		case "sysindexes":
			for i := range x.desc.Indexes {
				list = append(list, schema.IndexRow(x.desc, i))
			}
		}
	}
	return list
}

// tuples gives all ways to pick a row of each table, the first table's rows first.
func (m *model) tuples(list []api.Table) [][][]api.Value {
	if len(list) == 0 {
		return [][][]api.Value{nil}
	}
	var all [][][]api.Value
	rest := m.tuples(list[1:])
	for _, row := range m.rowsOf(list[0].Name) {
		for _, tuple := range rest {
			all = append(all, append([][]api.Value{row}, tuple...))
		}
	}
	return all
}

// through tells whether conditions let rows through, or which error they meet.
func through(x api.Term, over [][]api.Value) (bool, api.Errno) {
	var verdicts []api.Verdict
	for _, cond := range x.Conds {
		for _, c := range norm.Conjuncts(cond) {
			verdicts = append(verdicts, expr.Test(c, over))
		}
	}
	return logic.Sieve(verdicts)
}

func (m *model) answer(x api.Term) (list [][]api.Value, worst api.Errno) {
	for _, over := range m.tuples(x.Tables) {
		ok, code := through(x, over)
		if ok {
			var row []api.Value
			if row, code = expr.Row(slices.Concat(x.Items, x.Order), over); code == api.OK {
				list = append(list, row[:len(x.Items)])
			}
		}
		worst = logic.Worse(worst, code)
	}
	if worst != api.OK {
		return nil, worst
	}
	return list, api.OK
}

// change changes a table's rows, all at once.
func (m *model) change(x api.Term) (int, api.Errno) {
	desc := x.Tables[0]
	h := &m.tables[slices.IndexFunc(m.tables, func(h held) bool { return h.desc.Name == desc.Name })]
	var after [][]api.Value
	var worst api.Errno
	count := 0
	put := func(codes []api.Code, over [][]api.Value) {
		row, code := expr.Row(codes, over)
		if code == api.OK {
			code = rows.Fit(desc.Cols, row)
		}
		worst = logic.Worse(worst, code)
		after = append(after, row)
	}
	for _, row := range h.rows {
		over := [][]api.Value{row}
		ok, code := x.Kind != api.StInsert, api.OK
		if ok {
			ok, code = through(x, over)
		}
		worst = logic.Worse(worst, code)
		switch {
		case !ok:
			after = append(after, row)
			continue
		case x.Kind == api.StUpdate:
			put(x.Rows[0], over)
		}
		count++
	}
	if x.Kind == api.StInsert {
		for _, codes := range x.Rows {
			put(codes, nil)
			count++
		}
	}
	switch {
	case worst != api.OK:
		return 0, worst
	case hasAlike(desc.Indexes, after):
		return 0, api.ErrUnique
	case x.Kind == api.StInsert && len(after) > m.most:
		return 0, api.ErrFull
	}
	h.rows = after
	return count, api.OK
}

// holds gives all that the tables hold as text, each table's rows in one order.
func (m *model) holds() string {
	var list []api.Dump
	for _, x := range m.tables {
		list = append(list, api.Dump{Table: x.desc, Rows: x.rows})
	}
	return holdsText(list)
}

func holdsText(list []api.Dump) string {
	var all []string
	for _, x := range list {
		all = append(all, fmt.Sprint(x.Table, " ", inAnyOrder(x.Rows)))
	}
	return strings.Join(all, "\n")
}

// inAnyOrder gives rows that may stand in any order as text in which they stand in one.
func inAnyOrder(rows [][]api.Value) string {
	var list []string
	for _, row := range rows {
		list = append(list, fmt.Sprintf("%q", fmt.Sprint(row)))
	}
	slices.Sort(list)
	return strings.Join(list, " ")
}

// saidText gives what a reply says, but for its session and the numbers of the transaction.
func saidText(r api.Reply) string {
	return fmt.Sprintf("%q: %d %q %d: %s", r.Text, r.Code, r.Names, r.Count, inAnyOrder(r.Rows))
}

// isSorted tells whether the rows stand in order by their last values.
func isSorted(rows [][]api.Value, desc []bool) bool {
	return slices.IsSortedFunc(rows, func(a, b []api.Value) int {
		for i, down := range desc {
			at := len(a) - len(desc) + i
			order := value.Compare(a[at], b[at])
			if down {
				order = -order
			}
			if order != 0 {
				return order
			}
		}
		return 0
	})
}
