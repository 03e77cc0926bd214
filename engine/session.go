package engine

import (
	"slices"

	"hasp/api"
	"hasp/waits"
)

// statement is what a session has to do.
type statement struct {
	text string
	next func() bool // does the next step of it, and tells whether that has to wait; nil: there is nothing to do
}

// session is one that submits statements.
type session struct {
	statement
	number  int
	txn     int  // its open transaction; 0: none
	begun   bool // by BEGIN
	aborted bool // its transaction was a victim
}

func (s *session) isBusy() bool { return s.next != nil }

// begin begins a transaction by BEGIN.
func (e *Engine) begin(s *session) {
	if s.begun {
		e.reply(s, api.Reply{Code: api.ErrState})
		return
	}
	s.txn, s.begun = e.txns.Begin(), true
	e.reply(s, api.Reply{})
}

// end ends a transaction that was begun by BEGIN.
func (e *Engine) end(s *session, how func(*session) int) {
	if !s.begun {
		e.reply(s, api.Reply{Code: api.ErrState})
		return
	}
	r := api.Reply{Txn: s.txn}
	r.Seq = how(s)
	e.tell(s, r)
}

// commit ends a session's transaction, and tells how many were committed so far.
func (e *Engine) commit(s *session) int {
	seq, _ := e.txns.Commit(s.txn)
	e.leave(s)
	return seq
}

// rollBack undoes a session's transaction, if it has one; as none is committed with it, it tells 0.
func (e *Engine) rollBack(s *session) int {
	e.txns.Rollback(s.txn)
	e.leave(s)
	return 0
}

// leave gives up what the transaction has that a session is in no more.
func (e *Engine) leave(s *session) {
	e.locks.Drop(s.txn)
	s.txn, s.begun = 0, false
}

// reply replies a session's statement; a transaction that is for it alone ends, committed.
func (e *Engine) reply(s *session, r api.Reply) {
	r.Txn = s.txn
	if s.txn != 0 && !s.begun {
		r.Seq = e.commit(s)
	}
	e.tell(s, r)
}

// tell gives a reply, with which a session's statement is done.
func (e *Engine) tell(s *session, r api.Reply) {
	r.Session, r.Text = s.number, s.text
	e.replies = append(e.replies, r)
	s.statement = statement{}
}

// breakRings rolls victims back, until a transaction that has to wait lies on no ring. A ring that is new goes through it: all others wait for whom they waited for, or for it too.
func (e *Engine) breakRings(txn int) {
	for {
		ring := waits.Cycle(e.locks.Edges(), txn)
		if len(ring) == 0 {
			return
		}
		e.sacrifice(e.sessionOf(waits.Victim(ring)))
	}
}

// sessionOf gives the session whose transaction this is.
func (e *Engine) sessionOf(txn int) *session {
	return e.sessions[slices.IndexFunc(e.sessions, func(s *session) bool { return s.txn == txn })]
}

// sacrifice rolls a session's transaction back, so that others can go on.
func (e *Engine) sacrifice(s *session) {
	r := api.Reply{Txn: s.txn, Code: api.ErrDeadlock}
	s.aborted = s.begun
	e.rollBack(s)
	e.tell(s, r)
}
