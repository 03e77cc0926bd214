package engine_test

import (
	"fmt"
	"reflect"
	"slices"
	"testing"

	"hasp/api"
	"hasp/waits"
)

// play is sessions that do statements beside each other at random, held against a judge at every step.
type play struct {
	*desk
	g       *maker
	j       *judge
	next    func(begun bool) query
	sorts   map[string][]bool // by the statements' texts
	replies int               // so many were looked at
	took    []int             // by the sessions: the steps of their statements that weren't Blocked
	rows    int               // that a table may have
	met     tally
}

func newPlay(t *testing.T, g *maker, sessions, rows int, met tally) *play {
	t.Helper()
	return &play{desk: open(t, sessions, rows), g: g, j: newJudge(sessions, rows), sorts: map[string][]bool{}, took: make([]int, sessions), rows: rows, met: met}
}

// ahead does a statement by the session 0 to its end.
func (p *play) ahead(text string) {
	p.Helper()
	p.Submit(0, text)
	p.j.submit(0, text)
	for state := api.Running; state != api.Done; {
		state = p.Step(0)
		if p.j.step(0) != state || state == api.Blocked {
			p.Fatalf("%s: %d", text, state)
		}
	}
}

// turn lets some session do something.
func (p *play) turn() {
	p.Helper()
	n := p.g.IntN(len(p.j.sessions))
	if _, waits := p.j.l.Wish(p.j.sessions[n].Txn); waits {
		n = p.g.IntN(len(p.j.sessions)) // of those that wait there is enough
	}
	switch s := p.j.sessions[n]; {
	case p.g.odds(400):
		if p.Break(n) != p.j.breakOff(n) {
			p.Fatal("Break")
		}
		p.met["broken off"]++
	case !s.Busy:
		q := p.next(s.Begun)
		p.sorts[q.text], p.took[n] = q.desc, 0
		if p.Submit(n, q.text) != p.j.submit(n, q.text) {
			p.Fatal("Submit")
		}
	default:
		p.stepTogether(n)
	}
}

// stepTogether lets a session do a step, in the engine and in the judge, and holds what they tell.
func (p *play) stepTogether(n int) int {
	p.Helper()
	text := p.j.stages[n].text
	got, want := p.Step(n), p.j.step(n)
	if got != want {
		p.Fatalf("P25.2: a step of %s: %d, not %d", text, got, want)
	}
	p.met[[...]string{"Idle", "Running", "Blocked", "Done"}[got]]++
	if got == api.Running || got == api.Done {
		p.took[n]++
	}
	// Of three tables with three columns and some indexes the system tables have no more than 12 rows.
	if most := 8 + api.MaxIndexes + runAtMost(p.j.stages[n].term, max(p.rows, 12)); p.took[n] > most {
		p.Fatalf("P25.8: %s takes %d steps, not %d at most", text, p.took[n], most)
	}
	if !reflect.DeepEqual(p.Sessions(), p.j.sessions) {
		p.Fatalf("P25.4: a step of %s: sessions %v, not %v", text, p.Sessions(), p.j.sessions)
	}
	if !slices.Equal(p.Locks(), p.j.l.Locks()) {
		p.Fatalf("P25.4: a step of %s: locks %v, not %v", text, p.Locks(), p.j.l.Locks())
	}
	edges := p.Edges()
	if !slices.Equal(edges, p.j.l.Edges()) || waits.Any(edges) {
		p.Fatalf("P25.7: a step of %s: edges %v, not %v", text, edges, p.j.l.Edges())
	}
	p.holdsReplies()
	return got
}

// holdsReplies holds the replies that are new.
func (p *play) holdsReplies() {
	p.Helper()
	if len(p.j.replies) == p.replies {
		return
	}
	list := p.Replies(p.replies)
	if fmt.Sprintf("%+v", list) != fmt.Sprintf("%+v", p.j.replies[p.replies:]) {
		p.Fatalf("P25.3: replies %v, not %v", list, p.j.replies[p.replies:])
	}
	for _, r := range list {
		p.met[fmt.Sprint("code ", int(r.Code))]++
		if !isSorted(r.Rows, p.sorts[r.Text]) {
			p.Errorf("%s: not sorted: %v", r.Text, r.Rows)
		}
	}
	p.replies += len(list)
	if !p.Sound() || !reflect.DeepEqual(p.Dump(), p.j.s.Dump()) {
		p.Fatalf("P25.4: the tables hold %v, not %v", p.Dump(), p.j.s.Dump())
	}
}

// finish breaks off what isn't committed, and holds what was against what it means, done one behind the other (P25.6).
func (p *play) finish() {
	p.Helper()
	if p.g.odds(2) {
		p.drain()
	}
	for n := range p.j.sessions {
		if p.Break(n) != p.j.breakOff(n) {
			p.Fatal("Break")
		}
	}
	if len(p.Locks()) != 0 || len(p.Edges()) != 0 {
		p.Fatalf("locks %v, edges %v", p.Locks(), p.Edges())
	}
	p.fine()
	m := &model{most: p.rows}
	for i, list := range committed(p.Replies(0)) {
		if len(list) > 0 {
			p.met["committed"]++
		}
		for _, r := range list {
			if got := m.do(r.Text); saidText(got) != saidText(r) {
				p.Fatalf("P25.6: in the transaction with Seq %d: %v, not %v", i+1, r, got)
			}
		}
		if m.txn != 0 || m.commits != i+1 {
			p.Fatalf("P25.6: the transaction with Seq %d: %d", i+1, m.commits)
		}
	}
	if held := holdsText(p.Dump()); held != m.holds() {
		p.Fatalf("P25.6: the tables hold %s, not %s", held, m.holds())
	}
}

// drain lets all sessions end what they have to do, and their transactions: nobody waits for ever (P25.8).
func (p *play) drain() {
	p.Helper()
	for range 300000 { // more than a query of three sources takes
		for n := range p.j.sessions {
			if s := p.j.sessions[n]; !s.Busy && (s.Begun || s.Aborted) {
				text := "COMMIT"
				if s.Aborted {
					text = "ROLLBACK"
				}
				p.took[n] = 0
				p.Submit(n, text)
				p.j.submit(n, text)
			}
			p.stepTogether(n)
		}
		if !slices.ContainsFunc(p.j.sessions, func(s api.Session) bool { return s != api.Session{} }) {
			p.met["drained"]++
			return
		}
	}
	p.Fatalf("P25.8: they come to no end: %v, who waits: %v", p.Sessions(), p.Edges())
}

// committed gives the replies of the transactions that were committed, in the order of their numbers.
func committed(list []api.Reply) [][]api.Reply {
	of := map[int][]api.Reply{}
	var all [][]api.Reply
	for _, r := range list {
		if r.Txn != 0 {
			of[r.Txn] = append(of[r.Txn], r)
		}
		if r.Seq != 0 {
			all = append(all, of[r.Txn])
		}
	}
	return all
}

// TestP25_6Random lets sessions do random statements of all kinds over a few tables.
func TestP25_6Random(t *testing.T) {
	t.Parallel()
	g := newMaker(6)
	met := tally{}
	for range 160 {
		rows := pick(g, 3, 5, 8)
		p := newPlay(t, g, 2+g.IntN(3), rows, met)
		for _, name := range tableNames[:1+g.IntN(3)] {
			p.ahead(g.table(name))
		}
		p.next = func(begun bool) query { return g.next(p.descs(), begun) }
		for range 1500 {
			p.turn()
		}
		p.finish()
	}
	met.meets(t, 2000, "code 0", "committed", "Blocked")
	met.meets(t, 30, "code 251", "code 252", "broken off", "drained", "code 60", "code 130", "code 160", "code 191")
	met.meets(t, 10, "code 32", "code 163", "code 164", "code 190")
}

// TestP25_6Narrow lets sessions do statements that look at few rows of one table: many of them needn't wait.
func TestP25_6Narrow(t *testing.T) {
	t.Parallel()
	g := newMaker(66)
	met := tally{}
	for range 160 {
		rows := pick(g, 8, 12, 20)
		p := newPlay(t, g, 2+g.IntN(4), rows, met)
		p.ahead("CREATE TABLE t (a INT, b INT, c INT)")
		p.ahead("CREATE UNIQUE INDEX i ON t (a)")
		p.ahead("CREATE INDEX j ON t (b, c)")
		for range 4 + g.IntN(6) {
			p.ahead("INSERT INTO t VALUES (" + pick(g, "1", "3", "5", "7", "9", "11", "13") + ", 4, " + pick(g, "2", "8") + ")")
		}
		p.next = func(begun bool) query { return g.nextNarrow(begun) }
		for range 1500 {
			p.turn()
		}
		p.finish()
	}
	met.meets(t, 2000, "code 0", "committed", "Blocked")
	met.meets(t, 50, "drained", "code 190", "code 191", "code 251", "code 252")
	met.meets(t, 10, "code 32")
}

func (g *maker) nextNarrow(begun bool) query {
	switch {
	case g.odds(100):
		return query{text: pick(g, "DROP INDEX i", "DROP INDEX j", "CREATE INDEX j ON t (c)", "CREATE UNIQUE INDEX i ON t (a)", "CREATE INDEX j ON t (b, c)", "SELECT * FROM sysindexes")}
	case g.odds(6) && begun:
		return query{text: pick(g, "COMMIT", "COMMIT", "ROLLBACK")}
	case g.odds(3) && !begun:
		return query{text: "BEGIN"}
	}
	return g.narrow()
}
