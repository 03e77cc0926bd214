package bind

import (
	"slices"

	"hasp/api"
	"hasp/schema"
)

// term checks a statement that is right by itself.
func (k known) term(st api.Stmt) api.Term {
	switch st.Kind {
	case api.StCreateTable:
		return k.createTable(st)
	case api.StDropTable:
		return api.Term{Kind: st.Kind, Tables: []api.Table{k.usersTable(st.Table)}}
	case api.StCreateIndex:
		return k.createIndex(st)
	case api.StDropIndex:
		t, x, found := k.index(st.Index)
		must(found, api.ErrIndex)
		return api.Term{Kind: st.Kind, Tables: []api.Table{t}, Index: x}
	case api.StInsert:
		return k.insert(st)
	case api.StSelect:
		return k.query(st)
	case api.StUpdate:
		return k.update(st)
	case api.StDelete:
		t := k.usersTable(st.Table)
		return api.Term{Kind: st.Kind, Tables: []api.Table{t}, Conds: alone(t).where(st.Where)}
	}
	return api.Term{Kind: st.Kind}
}

// alone gives the scope of a statement that reads the table that it changes.
func alone(t api.Table) scope { return scope{{t.Name, t}} }

func (k known) createTable(st api.Stmt) api.Term {
	must(!k.has(st.Table), api.ErrExists)
	t := api.Table{Name: st.Table, Cols: slices.Clone(st.Cols)}
	code := schema.Check(t)
	must(code == api.OK, code)
	return api.Term{Kind: st.Kind, Tables: []api.Table{t}}
}

func (k known) createIndex(st api.Stmt) api.Term {
	t := k.usersTable(st.Table)
	_, _, there := k.index(st.Index)
	must(!there, api.ErrExists)
	must(len(t.Indexes) < api.MaxIndexes, api.ErrMany)
	x := api.Index{Name: st.Index, Unique: st.Unique}
	for _, name := range st.Names {
		place := columnOf(t, name)
		must(place >= 0, api.ErrColumn)
		must(!slices.Contains(x.Cols, place), api.ErrExists)
		x.Cols = append(x.Cols, place)
	}
	return api.Term{Kind: st.Kind, Tables: []api.Table{t}, Index: x}
}

func (k known) insert(st api.Stmt) api.Term {
	t := k.usersTable(st.Table)
	term := api.Term{Kind: st.Kind, Tables: []api.Table{t}}
	for _, row := range st.Rows {
		must(len(row) == len(t.Cols), api.ErrArity)
		var codes []api.Code
		for i, e := range row {
			codes = append(codes, scope(nil).stored(e, t.Cols[i]))
		}
		term.Rows = append(term.Rows, codes)
	}
	return term
}

func (k known) update(st api.Stmt) api.Term {
	t := k.usersTable(st.Table)
	over := alone(t)
	row := over.columns(0)
	isSet := make([]bool, len(row))
	for _, set := range st.Sets {
		place := columnOf(t, set.Col)
		must(place >= 0, api.ErrColumn)
		must(!isSet[place], api.ErrExists)
		isSet[place] = true
		row[place] = over.stored(set.E, t.Cols[place])
	}
	return api.Term{Kind: st.Kind, Tables: []api.Table{t}, Rows: [][]api.Code{row}, Conds: over.where(st.Where)}
}

func (k known) query(st api.Stmt) api.Term {
	term := api.Term{Kind: st.Kind}
	over := k.sources(st.From)
	for i, s := range over {
		term.Tables = append(term.Tables, s.table)
		if i > 0 {
			term.Conds = append(term.Conds, over[:i+1].condition(st.From[i].On))
		}
	}
	term.Items, term.Names = over.items(st.Items)
	term.Conds = append(term.Conds, over.where(st.Where)...)
	for _, s := range st.Order {
		term.Order = append(term.Order, over.code(s.E))
		term.Desc = append(term.Desc, s.Desc)
	}
	return term
}

// sources gives the scope of a query.
func (k known) sources(from []api.Source) scope {
	var over scope
	for _, s := range from {
		t := k.table(s.Table)
		name := s.Alias
		if name == "" {
			name = s.Table
		}
		must(!over.under(name), api.ErrExists)
		over = append(over, source{name, t})
	}
	return over
}

// items gives the codes and the names of what a query answers.
func (over scope) items(list []api.Item) (codes []api.Code, names []string) {
	if len(list) == 0 {
		return over.everything()
	}
	for _, item := range list {
		name := item.Name
		if name == "" && item.E.Op == api.OpColumn {
			name = item.E.Text
		}
		codes, names = append(codes, over.code(item.E)), append(names, name)
	}
	return codes, names
}

// everything gives the codes and the names of all columns of all sources.
func (over scope) everything() (codes []api.Code, names []string) {
	for tab, s := range over {
		codes = append(codes, over.columns(tab)...)
		for _, col := range s.table.Cols {
			names = append(names, col.Name)
		}
	}
	return codes, names
}
