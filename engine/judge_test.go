package engine_test

import (
	"hasp/api"
	"hasp/bind"
	"hasp/catalog"
	"hasp/locks"
	"hasp/parse"
	"hasp/plan"
	"hasp/undo"
	"hasp/vm"
	"hasp/waits"
)

// judge is an engine by the chapter's words, point by point; where a session is within its statement is a number.
type judge struct {
	s        *catalog.Store
	x        *undo.Txns
	l        *locks.Table
	m        *vm.Machine
	sessions []api.Session
	stages   []stage
	replies  []api.Reply
}

// stage is where a session is within its statement.
type stage struct {
	text  string
	point int // of the chapter's four
	st    api.Stmt
	names int // so many are locked
	term  api.Term
	run   *vm.Run
}

func newJudge(sessions, rows int) *judge {
	j := &judge{s: catalog.New(), l: locks.New(), sessions: make([]api.Session, sessions), stages: make([]stage, sessions)}
	j.x = undo.New(j.s)
	j.m = vm.New(j.s, j.x, j.l, rows)
	return j
}

func (j *judge) submit(n int, text string) bool {
	if n < 0 || n >= len(j.sessions) || j.sessions[n].Busy {
		return false
	}
	j.sessions[n].Busy, j.stages[n] = true, stage{text: text, point: 1}
	return true
}

func (j *judge) breakOff(n int) bool {
	if n < 0 || n >= len(j.sessions) {
		return false
	}
	if j.sessions[n].Txn != 0 {
		j.x.Rollback(j.sessions[n].Txn)
		j.l.Drop(j.sessions[n].Txn)
	}
	j.sessions[n] = api.Session{}
	return true
}

// step does a step.
func (j *judge) step(n int) int {
	if n < 0 || n >= len(j.sessions) || !j.sessions[n].Busy {
		return api.Idle
	}
	if _, waiting := j.l.Wish(j.sessions[n].Txn); waiting {
		return api.Blocked
	}
	before := len(j.replies)
	granted := true
	switch j.stages[n].point {
	case 1:
		j.first(n)
	case 2:
		granted = j.second(n)
	case 3:
		j.third(n)
	case 4:
		granted = j.fourth(n)
	}
	if !granted {
		j.unring(n)
	}
	for _, r := range j.replies[before:] {
		if r.Session == n {
			return api.Done
		}
	}
	if !granted {
		return api.Blocked
	}
	return api.Running
}

// give gives a reply.
func (j *judge) give(n int, r api.Reply) {
	r.Session, r.Text = n, j.stages[n].text
	j.replies = append(j.replies, r)
	j.sessions[n].Busy = false
}

// first is point 1.
func (j *judge) first(n int) {
	s := &j.sessions[n]
	st, code := parse.Parse(j.stages[n].text)
	isBegin := code == api.OK && st.Kind == api.StBegin
	isCommit := code == api.OK && st.Kind == api.StCommit
	isRollback := code == api.OK && st.Kind == api.StRollback
	if s.Aborted && !isBegin {
		if isRollback {
			s.Aborted = false
			j.give(n, api.Reply{})
		} else {
			j.give(n, api.Reply{Code: api.ErrAborted})
		}
		return
	}
	s.Aborted = false
	switch {
	case code != api.OK:
		j.give(n, api.Reply{Code: code, Txn: s.Txn})
	case isBegin && s.Begun, (isCommit || isRollback) && !s.Begun:
		j.give(n, api.Reply{Code: api.ErrState, Txn: s.Txn})
	case isBegin:
		s.Txn, s.Begun = j.x.Begin(), true
		j.give(n, api.Reply{Txn: s.Txn})
	case isCommit:
		txn := s.Txn
		j.give(n, api.Reply{Txn: txn, Seq: j.commit(n)})
	case isRollback:
		txn := s.Txn
		j.x.Rollback(txn)
		j.l.Drop(txn)
		s.Txn, s.Begun = 0, false
		j.give(n, api.Reply{Txn: txn})
	default:
		if s.Txn == 0 {
			s.Txn = j.x.Begin()
		}
		j.stages[n].point, j.stages[n].st = 2, st
	}
}

func (j *judge) commit(n int) int {
	s := &j.sessions[n]
	seq, _ := j.x.Commit(s.Txn)
	j.l.Drop(s.Txn)
	s.Txn, s.Begun = 0, false
	return seq
}

// names gives the names that a statement locks, as they are now, and behind them the system tables.
func (j *judge) names(st api.Stmt) []api.Lock {
	var list []api.Lock
	add := func(mode int, names ...string) {
		for _, name := range names {
			list = append(list, api.Lock{Res: name, Mode: mode})
		}
	}
	switch st.Kind {
	case api.StCreateTable:
		add(api.X, "n/", "n/"+st.Table)
	case api.StDropTable:
		add(api.X, "n/", "n/"+st.Table)
		if t, ok := j.s.Table(st.Table); ok {
			for _, x := range t.Desc().Indexes {
				add(api.X, "i/"+x.Name)
			}
		}
	case api.StCreateIndex:
		add(api.X, "n/"+st.Table, "i/"+st.Index)
	case api.StDropIndex:
		add(api.X, "i/"+st.Index)
		for _, t := range j.s.Tables() {
			for _, x := range t.Indexes {
				if x.Name == st.Index {
					add(api.X, "n/"+t.Name)
				}
			}
		}
	case api.StSelect:
		seen := map[string]int{}
		for _, source := range st.From {
			if seen[source.Table]++; seen[source.Table] == 1 {
				add(api.S, "n/"+source.Table)
			}
		}
		return list
	default:
		add(api.S, "n/"+st.Table)
		return list
	}
	add(api.IX, "t/systables", "t/syscolumns", "t/sysindexes")
	return list
}

// second is point 2; false: it waits.
func (j *judge) second(n int) bool {
	g := &j.stages[n]
	name := j.names(g.st)[g.names]
	if j.l.Ask(j.sessions[n].Txn, name.Res, name.Mode) != api.Granted {
		return false
	}
	g.names++
	if g.names == len(j.names(g.st)) {
		g.point = 3
	}
	return true
}

// third is point 3.
func (j *judge) third(n int) {
	g, txn := &j.stages[n], j.sessions[n].Txn
	term, code := bind.Bind(g.st, j.s.Tables())
	if code == api.OK {
		switch g.st.Kind {
		case api.StCreateTable:
			code = api.ErrFull
			if len(j.s.Tables()) < 20 {
				code = j.x.Make(txn, term.Tables[0])
			}
		case api.StDropTable:
			code = j.x.Drop(txn, g.st.Table)
		case api.StCreateIndex:
			code = j.x.AddIndex(txn, g.st.Table, term.Index)
		case api.StDropIndex:
			code = j.x.DropIndex(txn, g.st.Index)
		default:
			p, _ := plan.Make(term)
			g.point, g.run, g.term = 4, j.m.Start(txn, p), term
			return
		}
	}
	j.finish(n, api.Reply{Code: code})
}

// fourth is point 4; false: it waits.
func (j *judge) fourth(n int) bool {
	g := &j.stages[n]
	state := g.run.Step()
	if state == api.Done {
		x := g.run.Result()
		r := api.Reply{Code: x.Code, Rows: x.Rows, Count: x.Count}
		if x.Code == api.OK && g.st.Kind == api.StSelect {
			r.Names = g.term.Names
		}
		j.finish(n, r)
	}
	return state != api.Blocked
}

// finish replies a statement, with the transaction in which it was done.
func (j *judge) finish(n int, r api.Reply) {
	r.Txn = j.sessions[n].Txn
	if !j.sessions[n].Begun {
		r.Seq = j.commit(n)
	}
	j.give(n, r)
}

// unring breaks rings, as long as a session's transaction lies on one.
func (j *judge) unring(n int) {
	for ring := waits.Cycle(j.l.Edges(), j.sessions[n].Txn); len(ring) > 0; ring = waits.Cycle(j.l.Edges(), j.sessions[n].Txn) {
		youngest := 0
		for _, txn := range ring {
			youngest = max(youngest, txn)
		}
		for v := range j.sessions {
			if s := &j.sessions[v]; s.Txn == youngest {
				begun := s.Begun
				j.x.Rollback(youngest)
				j.l.Drop(youngest)
				*s = api.Session{Aborted: begun, Busy: true}
				j.give(v, api.Reply{Txn: youngest, Code: api.ErrDeadlock})
			}
		}
	}
}
