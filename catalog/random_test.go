package catalog_test

import (
	"math/rand/v2"
	"slices"
	"testing"

	"hasp/api"
	"hasp/catalog"
)

var (
	tableNames = []string{"t", "u", "v", "w", "systables", "syscolumns", "sysindexes", "", "select", "T"}
	indexNames = []string{"i", "j", "k", "l", "m", "n", "o", "p", "q", "t"}
)

func pick[T any](r *rand.Rand, list ...T) T { return list[r.IntN(len(list))] }

// anyName picks the name of a table, mostly one that can be there.
func anyName(r *rand.Rand) string {
	if r.IntN(10) == 0 {
		return pick(r, tableNames...)
	}
	return pick(r, tableNames[:3]...)
}

func whole(n int64) api.Value { return api.Value{Kind: api.Int, Num: n} }

func text(s string) api.Value { return api.Value{Kind: api.Text, Text: s} }

// anyValue makes a value of a type, of few, so that rows are often alike.
func anyValue(r *rand.Rand, c api.Column) api.Value {
	if n := r.IntN(40); n == 0 || n < 8 && !c.Required {
		return api.Value{}
	}
	if c.Type == api.Int {
		return whole(r.Int64N(4))
	}
	return text(pick(r, "a", "b", "", "a,b"))
}

func anyRow(r *rand.Rand, cols []api.Column) []api.Value {
	var row []api.Value
	for _, c := range cols {
		row = append(row, anyValue(r, c))
	}
	if r.IntN(40) == 0 {
		row = row[1:]
	}
	return row
}

// anyIndex makes an index that is mostly right.
func anyIndex(r *rand.Rand, cols int) api.Index {
	x := api.Index{Name: pick(r, indexNames...), Unique: r.IntN(2) == 0}
	if r.IntN(20) == 0 {
		x.Name = pick(r, "index", "")
	}
	if r.IntN(20) > 0 {
		x.Cols = r.Perm(cols)[:1+r.IntN(min(cols, 4))]
	}
	return x
}

// anyTable makes a description that is mostly right.
func anyTable(r *rand.Rand) api.Table {
	desc := api.Table{Name: anyName(r)}
	for n := range 1 + r.IntN(3) {
		desc.Cols = append(desc.Cols, api.Column{Name: string(rune('a' + n)), Type: pick(r, api.Int, api.Text), Required: r.IntN(4) == 0})
	}
	for range r.IntN(3) {
		desc.Indexes = append(desc.Indexes, anyIndex(r, len(desc.Cols)))
	}
	if r.IntN(30) == 0 {
		desc.Cols = nil
	}
	return desc
}

// anyList makes changes that are mostly right.
func anyList(r *rand.Rand, h *sheet) []api.Change {
	var list []api.Change
	for _, n := range r.Perm(len(h.rows) + 2)[:r.IntN(min(len(h.rows), 3)+2)] {
		c := api.Change{Row: anyRow(r, h.desc.Cols)}
		if h.row(n) != nil || r.IntN(30) == 0 {
			c.Id, c.Del = n, r.IntN(2) == 0
		}
		list = append(list, c)
	}
	return list
}

// player plays at random with a store and its model.
type player struct {
	*rand.Rand
	s     *catalog.Store
	m     *model
	deeds []deed
	codes map[api.Errno]int
}

// note holds a call's answer against what it is to be, and notes the deed.
func (p *player) note(t *testing.T, want api.Errno, call func() (*catalog.Undo, api.Errno), d deed) {
	t.Helper()
	before := picture(p.s)
	var code api.Errno
	d.undo, code = call()
	if code != want || (d.undo == nil) != (code != api.OK) {
		t.Fatalf("%v: %v, %d, not %d", d, d.undo, code, want)
	}
	p.codes[code]++
	switch {
	case code != api.OK:
		if after := picture(p.s); after != before {
			t.Fatalf("%v: %d, and it changed\n%sto\n%s", d, code, before, after)
		}
	case d.after == nil:
		delete(p.m.tables, d.name)
	default:
		p.m.tables[d.name] = d.after
	}
	if code != api.OK {
		return
	}
	if hold(t, p.s, p.m); p.IntN(5) > 0 {
		p.deeds = append(p.deeds, d)
		return
	}
	if d.undo.Back(); picture(p.s) != before {
		t.Fatalf("%v: undone at once it leaves\n%snot\n%s", d, picture(p.s), before)
	}
	p.m.back(d)
}

func (p *player) apply(t *testing.T) {
	t.Helper()
	d := deed{name: anyName(p.Rand)}
	d.before = p.m.tables[d.name]
	want := p.m.users(d.name)
	list := []api.Change{{Id: p.IntN(3) - 1}}
	if want == api.OK {
		list = anyList(p.Rand, d.before)
		x, _ := p.s.Table(d.name)
		want = x.Check(list)
		rows := map[int][]api.Value{}
		last := len(d.before.rows)
		for _, c := range list {
			if c.Id == 0 {
				last++
				c.Id = last
			}
			if c.Del {
				c.Row = nil
			}
			rows[c.Id] = c.Row
			d.ids = append(d.ids, c.Id)
		}
		delete(rows, -1)
		d.after = d.before.with(rows)
	}
	p.note(t, want, func() (*catalog.Undo, api.Errno) { return p.s.Apply(d.name, list) }, d)
}

func (p *player) make(t *testing.T) {
	t.Helper()
	desc := anyTable(p.Rand)
	p.m.made++
	d := deed{name: desc.Name, whole: true, after: &sheet{desc: desc, maker: p.m.made}}
	p.note(t, p.m.make(desc), func() (*catalog.Undo, api.Errno) { return p.s.Make(desc) }, d)
}

func (p *player) drop(t *testing.T) {
	t.Helper()
	name := anyName(p.Rand)
	d := deed{name: name, whole: true, before: p.m.tables[name]}
	p.note(t, p.m.users(name), func() (*catalog.Undo, api.Errno) { return p.s.Drop(name) }, d)
}

func (p *player) addIndex(t *testing.T) {
	t.Helper()
	name, x := anyName(p.Rand), anyIndex(p.Rand, 2)
	d := deed{name: name, whole: true, before: p.m.tables[name]}
	want := p.m.addIndex(name, x)
	if want == api.OK {
		d.after = d.before.indexed(append(slices.Clone(d.before.desc.Indexes), x))
	}
	p.note(t, want, func() (*catalog.Undo, api.Errno) { return p.s.AddIndex(name, x) }, d)
}

func (p *player) dropIndex(t *testing.T) {
	t.Helper()
	index := pick(p.Rand, indexNames...)
	d := deed{name: p.m.owner(index), whole: true}
	want := api.ErrIndex
	if d.name != "" {
		want = api.OK
		d.before = p.m.tables[d.name]
		d.after = d.before.indexed(slices.DeleteFunc(slices.Clone(d.before.desc.Indexes), func(x api.Index) bool { return x.Name == index }))
	}
	p.note(t, want, func() (*catalog.Undo, api.Errno) { return p.s.DropIndex(index) }, d)
}

// back undoes one of the deeds that may be undone now; false, if there is none.
func (p *player) back(t *testing.T) bool {
	t.Helper()
	for _, i := range p.Perm(len(p.deeds))[:len(p.deeds)/2] {
		if d := p.deeds[i]; p.m.may(d) {
			d.undo.Back()
			p.m.back(d)
			p.deeds = slices.Delete(p.deeds, i, i+1)
			hold(t, p.s, p.m)
			return true
		}
	}
	return false
}

// play does one of all calls but Back.
func (p *player) play(t *testing.T) {
	t.Helper()
	switch n := p.IntN(32); {
	case n < 18:
		p.apply(t)
	case n < 25:
		p.make(t)
	case n < 26:
		p.drop(t)
	case n < 30:
		p.addIndex(t)
	default:
		p.dropIndex(t)
	}
}

// TestP20_3Random plays with stores, undoes what may be undone, and holds them against their models behind every step.
func TestP20_3Random(t *testing.T) {
	r := rand.New(rand.NewPCG(20, 3))
	codes, backs := map[api.Errno]int{}, 0
	for range 250 {
		p := &player{Rand: r, s: catalog.New(), m: newModel(), codes: codes}
		for range 100 {
			if r.IntN(5) > 0 {
				p.play(t)
			} else if p.back(t) {
				backs++
			}
		}
	}
	for _, code := range []api.Errno{api.OK, api.ErrArg, api.ErrArity, api.ErrNull, api.ErrName, api.ErrMany, api.ErrColumn, api.ErrTable, api.ErrExists, api.ErrIndex, api.ErrSystem, api.ErrUnique} {
		if codes[code] < 20 {
			t.Errorf("%d times %d", codes[code], code)
		}
	}
	if backs < 2000 {
		t.Errorf("%d undone", backs)
	}
}

// TestP1Backs undoes calls in any order, and twice: nothing is promised of what is left then, but that nothing panics, and (P20.4) that the store is sound.
func TestP1Backs(t *testing.T) {
	r := rand.New(rand.NewPCG(20, 1))
	for range 150 {
		p := &player{Rand: r, s: catalog.New(), m: newModel(), codes: map[api.Errno]int{}}
		for range 60 {
			p.play(t)
		}
		deeds := append(p.deeds, p.deeds...)
		for _, i := range r.Perm(len(deeds)) {
			deeds[i].undo.Back()
			told(t, p.s, p.s.Tables())
			if !p.s.Sound() {
				t.Fatalf("%v: not sound", deeds[i])
			}
		}
	}
}
