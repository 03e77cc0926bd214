package parse

import "hasp/api"

// statement reads a statement.
func (p *parser) statement() api.Stmt {
	switch {
	case p.found("create"):
		return p.create()
	case p.found("drop"):
		return p.drop()
	case p.found("insert"):
		return p.insert()
	case p.found("select"):
		return p.query()
	case p.found("update"):
		return p.update()
	case p.found("delete"):
		p.need("from")
		return api.Stmt{Kind: api.StDelete, Table: p.name(), Where: p.where()}
	case p.found("begin"):
		return api.Stmt{Kind: api.StBegin}
	case p.found("commit"):
		return api.Stmt{Kind: api.StCommit}
	}
	p.need("rollback")
	return api.Stmt{Kind: api.StRollback}
}

// create reads what follows CREATE.
func (p *parser) create() api.Stmt {
	if p.found("table") {
		return api.Stmt{Kind: api.StCreateTable, Table: p.name(), Cols: enclosed(p, p.column, api.MaxColumns)}
	}
	st := api.Stmt{Kind: api.StCreateIndex, Unique: p.found("unique")}
	p.need("index")
	st.Index = p.name()
	p.need("on")
	st.Table = p.name()
	st.Names = enclosed(p, p.name, api.MaxKey)
	return st
}

// column reads a column of a table that is made.
func (p *parser) column() api.Column {
	c := api.Column{Name: p.name(), Type: p.columnType()}
	if p.found("not") {
		p.need("null")
		c.Required = true
	}
	return c
}

// columnType reads the type of a column.
func (p *parser) columnType() int {
	switch {
	case p.found("int"):
		return api.Int
	case p.found("real"):
		return api.Real
	case p.found("bool"):
		return api.Bool
	}
	p.need("text")
	return api.Text
}

// drop reads what follows DROP.
func (p *parser) drop() api.Stmt {
	if p.found("table") {
		return api.Stmt{Kind: api.StDropTable, Table: p.name()}
	}
	p.need("index")
	return api.Stmt{Kind: api.StDropIndex, Index: p.name()}
}

// insert reads what follows INSERT.
func (p *parser) insert() api.Stmt {
	p.need("into")
	st := api.Stmt{Kind: api.StInsert, Table: p.name()}
	p.need("values")
	st.Rows = list(p, p.row, api.MaxList)
	return st
}

// row reads a row that is added.
func (p *parser) row() []api.Expr { return enclosed(p, p.whole, api.MaxList) }

// query reads what follows SELECT.
func (p *parser) query() api.Stmt {
	st := api.Stmt{Kind: api.StSelect}
	if !p.found("*") {
		st.Items = list(p, p.item, api.MaxList)
	}
	p.need("from")
	st.From = p.sources()
	st.Where = p.where()
	if p.found("order") {
		p.need("by")
		st.Order = list(p, p.sort, api.MaxList)
	}
	return st
}

// item reads what a query answers in a column.
func (p *parser) item() api.Item { return api.Item{E: p.whole(), Name: p.alias()} }

// alias reads the name behind AS, if there is one.
func (p *parser) alias() string {
	if p.found("as") {
		return p.name()
	}
	return ""
}

// sources reads the tables of a query.
func (p *parser) sources() []api.Source {
	all := []api.Source{p.source()}
	for p.at("inner") || p.at("join") {
		must(len(all) < api.MaxFrom, api.ErrMany)
		p.found("inner")
		p.need("join")
		s := p.source()
		p.need("on")
		s.On = p.whole()
		all = append(all, s)
	}
	return all
}

// source reads a table of a query, without its condition.
func (p *parser) source() api.Source { return api.Source{Table: p.name(), Alias: p.alias()} }

// where reads the condition behind WHERE, if there is one.
func (p *parser) where() api.Expr {
	if p.found("where") {
		return p.whole()
	}
	return api.Expr{}
}

// sort reads what the rows are sorted by.
func (p *parser) sort() api.Sort { return api.Sort{E: p.whole(), Desc: p.found("desc")} }

// update reads what follows UPDATE.
func (p *parser) update() api.Stmt {
	st := api.Stmt{Kind: api.StUpdate, Table: p.name()}
	p.need("set")
	st.Sets = list(p, p.set, api.MaxList)
	st.Where = p.where()
	return st
}

// set reads a column's new value.
func (p *parser) set() api.Set {
	s := api.Set{Col: p.name()}
	p.need("=")
	s.E = p.whole()
	return s
}
