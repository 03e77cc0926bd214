package engine

import (
	"slices"

	"hasp/api"
	"hasp/bind"
	"hasp/parse"
	"hasp/plan"
	"hasp/schema"
	"hasp/vm"
)

// read is a statement's first step: its text is parsed.
func (e *Engine) read(s *session) bool {
	st, code := parse.Parse(s.text)
	switch {
	case s.aborted:
		e.resume(s, st.Kind)
	case code != api.OK:
		e.reply(s, api.Reply{Code: code})
	case st.Kind == api.StBegin:
		e.begin(s)
	case st.Kind == api.StCommit:
		e.end(s, e.commit)
	case st.Kind == api.StRollback:
		e.end(s, e.rollBack)
	default:
		if s.txn == 0 {
			s.txn = e.txns.Begin()
		}
		e.lockNames(s, st)
	}
	return false
}

// resume does what an aborted session takes, by the statement's kind.
func (e *Engine) resume(s *session, kind int) {
	switch kind {
	case api.StBegin:
		s.aborted = false
		e.begin(s)
	case api.StRollback:
		s.aborted = false
		e.reply(s, api.Reply{})
	default:
		e.reply(s, api.Reply{Code: api.ErrAborted})
	}
}

// lockNames lets the next steps lock a statement's names, so that what they mean stays; behind them the statement is checked.
func (e *Engine) lockNames(s *session, st api.Stmt) {
	check := func() {
		s.next = func() bool { return e.check(s, st) }
	}
	thenSystem := func(list []api.Lock) { e.lock(s, slices.Concat(list, systemLocks()), check) }
	switch st.Kind {
	case api.StCreateTable:
		thenSystem([]api.Lock{allTables(), tableName(st.Table, api.X)})
	case api.StDropTable:
		// Which indexes it has is known only where nobody else can make or drop one.
		e.lock(s, []api.Lock{allTables(), tableName(st.Table, api.X)}, func() { thenSystem(e.indexNames(st.Table)) })
	case api.StCreateIndex:
		thenSystem([]api.Lock{tableName(st.Table, api.X), indexName(st.Index)})
	case api.StDropIndex:
		e.lock(s, []api.Lock{indexName(st.Index)}, func() { thenSystem(e.ownerName(st.Index)) })
	default:
		e.lock(s, readNames(st), check)
	}
}

// lock lets the next steps ask for locks, each for one; with the last of them then is called, which says what follows.
func (e *Engine) lock(s *session, list []api.Lock, then func()) {
	s.next = func() bool {
		if e.locks.Ask(s.txn, list[0].Res, list[0].Mode) != api.Granted {
			return true
		}
		list = list[1:]
		if len(list) == 0 {
			then()
		}
		return false
	}
}

func allTables() api.Lock { return api.Lock{Res: "n/", Mode: api.X} }

func tableName(name string, mode int) api.Lock { return api.Lock{Res: "n/" + name, Mode: mode} }

func indexName(name string) api.Lock { return api.Lock{Res: "i/" + name, Mode: api.X} }

// readNames gives the locks of the names of a statement that changes no table's description.
func readNames(st api.Stmt) []api.Lock {
	var list []api.Lock
	names, _ := bind.Needs(st)
	for _, name := range names {
		list = append(list, tableName(name, api.S))
	}
	return list
}

// indexNames gives the locks of the names of the indexes that a table has now.
func (e *Engine) indexNames(table string) []api.Lock {
	var list []api.Lock
	for _, t := range e.store.Tables() {
		for _, x := range t.Indexes {
			if t.Name == table {
				list = append(list, indexName(x.Name))
			}
		}
	}
	return list
}

// ownerName gives the lock of the name of the table that has an index now, if there is one.
func (e *Engine) ownerName(index string) []api.Lock {
	for _, t := range e.store.Tables() {
		for _, x := range t.Indexes {
			if x.Name == index {
				return []api.Lock{tableName(t.Name, api.X)}
			}
		}
	}
	return nil
}

// systemLocks gives the locks of the system tables, whose rows are to change.
func systemLocks() []api.Lock {
	var list []api.Lock
	for _, t := range schema.System() {
		list = append(list, api.Lock{Res: vm.ResTable(t.Name), Mode: api.IX})
	}
	return list
}

// check checks a statement over the tables that there are. What changes a table's description is done at once; the others get a plan.
func (e *Engine) check(s *session, st api.Stmt) bool {
	term, code := bind.Bind(st, e.store.Tables())
	if code == api.OK {
		switch st.Kind {
		case api.StCreateTable, api.StDropTable, api.StCreateIndex, api.StDropIndex:
			code = e.describe(s.txn, term)
		default:
			e.start(s, term)
			return false
		}
	}
	e.reply(s, api.Reply{Code: code})
	return false
}

// describe makes or drops a table or an index.
func (e *Engine) describe(txn int, term api.Term) api.Errno {
	t := term.Tables[0]
	switch term.Kind {
	case api.StCreateTable:
		if len(e.store.Tables()) >= api.MaxTables {
			return api.ErrFull
		}
		return e.txns.Make(txn, t)
	case api.StDropTable:
		return e.txns.Drop(txn, t.Name)
	case api.StCreateIndex:
		return e.txns.AddIndex(txn, t.Name, term.Index)
	}
	return e.txns.DropIndex(txn, term.Index.Name)
}

// start makes a statement's plan, and lets the next steps run it.
func (e *Engine) start(s *session, term api.Term) {
	p, code := plan.Make(term)
	if code != api.OK {
		e.reply(s, api.Reply{Code: code})
		return
	}
	run := e.machine.Start(s.txn, p)
	s.next = func() bool {
		state := run.Step()
		if state == api.Done {
			e.reply(s, resultOf(term, run.Result()))
		}
		return state == api.Blocked
	}
}

// resultOf gives the reply to a statement whose plan is done.
func resultOf(term api.Term, r api.Result) api.Reply {
	reply := api.Reply{Code: r.Code, Rows: r.Rows, Count: r.Count}
	if r.Code == api.OK {
		reply.Names = term.Names
	}
	return reply
}
