package undo_test

import (
	"fmt"
	"maps"
	"math/rand/v2"
	"slices"
	"testing"

	"hasp/api"
	"hasp/catalog"
	"hasp/undo"
)

// The kinds of calls.
const (
	makes = iota
	drops
	applies
	addsIndex
	dropsIndex
)

// entry is a call that was done.
type entry struct {
	kind  int
	name  string // of the table
	desc  api.Table
	rows  map[int][]api.Value // nil: it goes
	index api.Index
}

// sheet is a table in plain lists.
type sheet struct {
	desc api.Table
	rows map[int][]api.Value
}

// replay gives the tables that there are, if just these calls were done.
func replay(log []*entry) map[string]*sheet {
	tables := map[string]*sheet{}
	for _, e := range log {
		switch e.kind {
		case makes:
			tables[e.name] = &sheet{desc: e.desc, rows: map[int][]api.Value{}}
		case drops:
			delete(tables, e.name)
		case applies:
			maps.Copy(tables[e.name].rows, e.rows)
		case addsIndex:
			tables[e.name].desc.Indexes = append(slices.Clone(tables[e.name].desc.Indexes), e.index)
		case dropsIndex:
			tables[e.name].desc.Indexes = slices.DeleteFunc(slices.Clone(tables[e.name].desc.Indexes), func(x api.Index) bool { return x.Name == e.index.Name })
		}
	}
	return tables
}

// text gives what tables hold, as state does.
func text(tables map[string]*sheet) string {
	s := ""
	for _, name := range slices.Sorted(maps.Keys(tables)) {
		h := tables[name]
		s += fmt.Sprint(h.desc)
		for _, id := range slices.Sorted(maps.Keys(h.rows)) {
			if h.rows[id] != nil {
				s += fmt.Sprint(" ", id, h.rows[id])
			}
		}
		s += "\n"
	}
	return s
}

// open is what is known of an open transaction.
type open struct {
	undos []*catalog.Undo // of the same calls on the twin
	log   []*entry
	gone  map[string]int
	rows  map[string]bool // tables and their rows
	names map[string]bool // of tables and indexes that it touched as a whole
}

// player plays at random with transactions; a twin of the store gets the same calls of layer 20.
type player struct {
	*rand.Rand
	s, twin          *catalog.Store
	x                *undo.Txns
	open             map[int]*open
	log              []*entry
	begun, committed int
	careful          bool // no two transactions touch one thing
	codes            map[api.Errno]int
	undone           int
}

func newPlayer(r *rand.Rand, careful bool) *player {
	p := &player{Rand: r, s: catalog.New(), twin: catalog.New(), open: map[int]*open{}, careful: careful, codes: map[api.Errno]int{}}
	p.x = undo.New(p.s)
	return p
}

func pick[T any](r *rand.Rand, list ...T) T { return list[r.IntN(len(list))] }

// clash tells whether another open transaction touched one of these things.
func (p *player) clash(txn int, wholes, rows []string) bool {
	for number, o := range p.open {
		if number == txn {
			continue
		}
		for _, name := range wholes {
			if o.names[name] || o.rows[name] {
				return true
			}
		}
		for place, name := range rows {
			// The first is the table: others may change rows of it, too.
			if o.names[name] || place > 0 && o.rows[name] {
				return true
			}
		}
	}
	return false
}

// call does a call in a transaction, and the same on the twin.
func (p *player) call(t *testing.T, txn int, e *entry, wholes, rows []string, do func() api.Errno, twin func() (*catalog.Undo, api.Errno)) api.Errno {
	t.Helper()
	o := p.open[txn]
	if o == nil {
		if code := do(); code != api.ErrState {
			t.Fatalf("%v in %d: %d", e, txn, code)
		}
		return api.ErrState
	}
	if p.careful && p.clash(txn, wholes, rows) {
		return api.ErrState
	}
	u, want := twin()
	if code := do(); code != want {
		t.Fatalf("%v in %d: %d, not %d", e, txn, code, want)
	}
	p.codes[want]++
	if want == api.OK {
		o.undos, o.log, p.log = append(o.undos, u), append(o.log, e), append(p.log, e)
		for _, name := range wholes {
			o.names[name] = true
		}
		for _, name := range rows {
			o.rows[name] = true
		}
	}
	return want
}

// anyTxn picks a transaction, mostly an open one.
func (p *player) anyTxn() int {
	if len(p.open) == 0 || p.IntN(20) == 0 {
		return p.IntN(p.begun+3) - 1
	}
	return pick(p.Rand, slices.Sorted(maps.Keys(p.open))...)
}

func (p *player) anyName() string {
	if p.IntN(30) == 0 {
		return pick(p.Rand, "systables", "x", "")
	}
	return pick(p.Rand, "t", "u", "v", "w")
}

func (p *player) anyIndex() api.Index {
	return api.Index{Name: pick(p.Rand, "i", "j", "k", "l", "m", "n"), Cols: []int{p.IntN(2)}, Unique: p.IntN(3) == 0}
}

func (p *player) make(t *testing.T) {
	t.Helper()
	txn := p.anyTxn()
	e := &entry{kind: makes, name: p.anyName()}
	e.desc = api.Table{Name: e.name, Cols: []api.Column{{Name: "a", Type: api.Int}, {Name: "b", Type: api.Int}}}
	wholes := []string{"t/" + e.name}
	for range p.IntN(3) {
		x := p.anyIndex()
		e.desc.Indexes = append(e.desc.Indexes, x)
		wholes = append(wholes, "i/"+x.Name)
	}
	p.call(t, txn, e, wholes, nil, func() api.Errno { return p.x.Make(txn, e.desc) }, func() (*catalog.Undo, api.Errno) { return p.twin.Make(e.desc) })
}

func (p *player) drop(t *testing.T) {
	t.Helper()
	txn, e := p.anyTxn(), &entry{kind: drops, name: p.anyName()}
	wholes := []string{"t/" + e.name}
	if x, ok := p.s.Table(e.name); ok {
		for _, x := range x.Desc().Indexes {
			wholes = append(wholes, "i/"+x.Name)
		}
	}
	p.call(t, txn, e, wholes, nil, func() api.Errno { return p.x.Drop(txn, e.name) }, func() (*catalog.Undo, api.Errno) { return p.twin.Drop(e.name) })
}

func (p *player) addIndex(t *testing.T) {
	t.Helper()
	txn, e := p.anyTxn(), &entry{kind: addsIndex, name: p.anyName(), index: p.anyIndex()}
	p.call(t, txn, e, []string{"t/" + e.name, "i/" + e.index.Name}, nil, func() api.Errno { return p.x.AddIndex(txn, e.name, e.index) }, func() (*catalog.Undo, api.Errno) { return p.twin.AddIndex(e.name, e.index) })
}

func (p *player) dropIndex(t *testing.T) {
	t.Helper()
	txn, e := p.anyTxn(), &entry{kind: dropsIndex, index: p.anyIndex()}
	for _, desc := range p.s.Tables() {
		if slices.ContainsFunc(desc.Indexes, func(x api.Index) bool { return x.Name == e.index.Name }) {
			e.name = desc.Name
		}
	}
	p.call(t, txn, e, []string{"t/" + e.name, "i/" + e.index.Name}, nil, func() api.Errno { return p.x.DropIndex(txn, e.index.Name) }, func() (*catalog.Undo, api.Errno) { return p.twin.DropIndex(e.index.Name) })
}

func (p *player) apply(t *testing.T) {
	t.Helper()
	txn, e := p.anyTxn(), &entry{kind: applies, name: p.anyName(), rows: map[int][]api.Value{}}
	last := 0
	if x, ok := p.s.Table(e.name); ok {
		last = x.Last()
	}
	var list []api.Change
	things, next, gone := []string{"t/" + e.name}, last, 0
	for range 1 + p.IntN(3) {
		c := api.Change{Id: max(p.IntN(last+3)-2, 0), Row: []api.Value{whole(p.Int64N(9)), whole(p.Int64N(99))}}
		if c.Del = c.Id > 0 && p.IntN(2) == 0; c.Del {
			c.Row, gone = nil, gone+1
		}
		list = append(list, c)
		if c.Id == 0 {
			next++
			c.Id = next
		}
		things = append(things, fmt.Sprint("r/", e.name, "/", c.Id))
		e.rows[c.Id] = c.Row
	}
	code := p.call(t, txn, e, nil, things, func() api.Errno { return p.x.Apply(txn, e.name, list) }, func() (*catalog.Undo, api.Errno) { return p.twin.Apply(e.name, list) })
	if code == api.OK {
		p.open[txn].gone[e.name] += gone
	}
}

// back undoes what a transaction did behind a mark, in what is known of it.
func (p *player) back(o *open, mark int) {
	for _, u := range slices.Backward(o.undos[mark:]) {
		u.Back()
	}
	undone := o.log[mark:]
	p.log = slices.DeleteFunc(p.log, func(e *entry) bool { return slices.Contains(undone, e) })
	p.undone += len(undone)
	o.undos, o.log = o.undos[:mark], o.log[:mark]
}

// end begins a transaction, ends one, or undoes a part of one.
func (p *player) end(t *testing.T) {
	t.Helper()
	txn := p.anyTxn()
	o := p.open[txn]
	want, n := api.ErrState, p.IntN(8)
	if o != nil {
		want = api.OK
	}
	switch {
	case n < 3:
		p.begun++
		p.open[p.begun] = &open{gone: map[string]int{}, rows: map[string]bool{}, names: map[string]bool{}}
		if got := p.x.Begin(); got != p.begun {
			t.Fatalf("Begin = %d, not %d", got, p.begun)
		}
	case n < 4:
		seq := 0
		if o != nil {
			p.committed++
			seq = p.committed
		}
		if got, code := p.x.Commit(txn); got != seq || code != want {
			t.Fatalf("Commit(%d) = %d, %d, not %d, %d", txn, got, code, seq, want)
		}
		delete(p.open, txn)
	case n < 6:
		if code := p.x.Rollback(txn); code != want {
			t.Fatalf("Rollback(%d) = %d, not %d", txn, code, want)
		}
		if o != nil {
			p.back(o, 0)
		}
		delete(p.open, txn)
	default:
		mark := p.IntN(p.x.Mark(txn)+3) - 1
		if o != nil && (mark < 0 || mark > len(o.undos)) {
			want = api.ErrArg
		}
		if code := p.x.Back(txn, mark); code != want {
			t.Fatalf("Back(%d, %d) = %d, not %d", txn, mark, code, want)
		}
		if want == api.OK {
			p.back(o, mark)
		}
	}
}

// hold holds the transactions, and what the store holds, against what is known of them.
func (p *player) hold(t *testing.T) {
	t.Helper()
	if got, want := p.x.Open(), slices.Sorted(maps.Keys(p.open)); !slices.Equal(got, want) {
		t.Fatalf("Open = %v, not %v", got, want)
	}
	for txn := -1; txn <= p.begun+1; txn++ {
		want := 0
		if o := p.open[txn]; o != nil {
			want = len(o.undos)
		}
		if got := p.x.Mark(txn); got != want {
			t.Fatalf("Mark(%d) = %d, not %d", txn, got, want)
		}
		for _, name := range []string{"t", "u", "x"} {
			want := 0
			for number, o := range p.open {
				if number != txn {
					want += o.gone[name]
				}
			}
			if got := p.x.Gone(txn, name); got != want {
				t.Fatalf("Gone(%d, %q) = %d, not %d", txn, name, got, want)
			}
		}
	}
	if !p.s.Sound() {
		t.Fatal("not sound")
	}
	if !p.careful {
		return
	}
	if got, want := state(p.s), text(replay(p.log)); got != want {
		t.Fatalf("the store holds\n%snot\n%s", got, want)
	}
}

// play does one of all calls.
func (p *player) play(t *testing.T) {
	t.Helper()
	switch n := p.IntN(20); {
	case n < 3:
		p.make(t)
	case n < 4:
		p.drop(t)
	case n < 5:
		p.addIndex(t)
	case n < 6:
		p.dropIndex(t)
	case n < 15:
		p.apply(t)
	default:
		p.end(t)
	}
}

// TestP21_4Random plays with transactions of which no two touch one thing: what is undone leaves the store as it would be without it.
func TestP21_4Random(t *testing.T) {
	r := rand.New(rand.NewPCG(21, 4))
	codes, undone := map[api.Errno]int{}, 0
	for range 300 {
		p := newPlayer(r, true)
		for range 120 {
			p.play(t)
			p.hold(t)
		}
		for code, n := range p.codes {
			codes[code] += n
		}
		undone += p.undone
	}
	for _, code := range []api.Errno{api.OK, api.ErrArg, api.ErrTable, api.ErrExists, api.ErrIndex, api.ErrSystem, api.ErrUnique} {
		if codes[code] < 50 {
			t.Errorf("%d times %d", codes[code], code)
		}
	}
	if undone < 2000 {
		t.Errorf("%d undone", undone)
	}
}

// TestP21_4Careless plays with transactions that touch what others touch: all answers but what the store holds are as told.
func TestP21_4Careless(t *testing.T) {
	r := rand.New(rand.NewPCG(21, 5))
	for range 150 {
		p := newPlayer(r, false)
		for range 60 {
			p.play(t)
			p.hold(t)
		}
	}
}
