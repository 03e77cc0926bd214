package table_test

import (
	"math/rand/v2"
	"slices"
	"testing"

	"hasp/api"
	"hasp/table"
)

func pick[T any](r *rand.Rand, list ...T) T { return list[r.IntN(len(list))] }

// anyRow makes a row that mostly fits.
func anyRow(r *rand.Rand, cols []api.Column) []api.Value {
	var row []api.Value
	for _, c := range cols {
		kind := c.Type
		switch r.IntN(60) {
		case 0:
			kind = r.IntN(5)
		case 1, 2, 3, 4, 5, 6:
			if !c.Required {
				kind = api.Null
			}
		}
		row = append(row, pick(r, samples(kind)...))
	}
	if r.IntN(60) == 0 {
		row = row[:r.IntN(len(row))]
	}
	return row
}

// anyIndex makes an index that is mostly right.
func anyIndex(r *rand.Rand, cols int) api.Index {
	x := api.Index{Name: pick(r, "i", "j", "k", "l", "m", "n", "o", "p", "q", "r"), Unique: r.IntN(2) == 0}
	if r.IntN(20) == 0 {
		x.Name = "select"
	}
	if r.IntN(20) > 0 {
		x.Cols = r.Perm(cols)[:1+r.IntN(min(cols, 4))]
	}
	return x
}

// anyTable makes a right description.
func anyTable(r *rand.Rand) api.Table {
	desc := api.Table{Name: "t"}
	for n := range 2 + r.IntN(3) {
		desc.Cols = append(desc.Cols, api.Column{Name: string(rune('a' + n)), Type: 1 + r.IntN(4), Required: r.IntN(4) == 0})
	}
	return desc
}

// anyList makes changes that are mostly right.
func anyList(r *rand.Rand, m *model) []api.Change {
	var list []api.Change
	ids := m.ids()
	r.Shuffle(len(ids), func(i, k int) { ids[i], ids[k] = ids[k], ids[i] })
	for range r.IntN(5) {
		c := api.Change{Row: anyRow(r, m.desc.Cols)}
		if len(ids) > 0 && r.IntN(3) > 0 {
			c.Id, ids = ids[0], ids[1:]
			if c.Del = r.IntN(2) == 0; c.Del && r.IntN(4) > 0 {
				c.Row = nil
			}
		}
		if r.IntN(60) == 0 {
			c.Id, c.Del = r.IntN(len(m.rows)+3)-1, r.IntN(2) == 0
		}
		list = append(list, c)
	}
	return list
}

// done is a list of changes that were made, and what undoes them.
type done struct {
	back []api.Change
	ids  []int
}

// player plays at random with a table and its model.
type player struct {
	*rand.Rand
	x     *table.Table
	m     *model
	made  []done
	codes map[api.Errno]int
}

// apply makes changes.
func (p *player) apply(t *testing.T) {
	t.Helper()
	back, code := apply(t, p.x, p.m, anyList(p.Rand, p.m)...)
	p.codes[code]++
	if code == api.OK && len(back) > 0 {
		d := done{back: back}
		for _, c := range back {
			d.ids = append(d.ids, c.Id)
		}
		p.made = append(p.made, d)
	}
}

// undo undoes changes of rows that weren't changed behind them.
func (p *player) undo() {
	for i := len(p.made) - 1; i >= 0; i-- {
		if p.IntN(3) == 0 {
			continue
		}
		mine := p.made[i].ids
		touched := slices.ContainsFunc(p.made[i+1:], func(d done) bool {
			return slices.ContainsFunc(d.ids, func(id int) bool { return slices.Contains(mine, id) })
		})
		if !touched {
			p.x.Undo(p.made[i].back)
			p.m.undo(p.made[i].back)
			p.made = slices.Delete(p.made, i, i+1)
			return
		}
	}
}

// put adds an index somewhere.
func (p *player) put(t *testing.T) {
	t.Helper()
	index, at := anyIndex(p.Rand, len(p.m.desc.Cols)), p.IntN(len(p.m.desc.Indexes)+3)-1
	want := p.m.put(index, at)
	if got := p.x.PutIndex(index, at); got != want {
		t.Fatalf("PutIndex(%v, %d) = %d, not %d", index, at, got, want)
	}
	p.codes[want]++
}

// drop takes an index away.
func (p *player) drop(t *testing.T) {
	t.Helper()
	name := anyIndex(p.Rand, 1).Name
	at := slices.IndexFunc(p.m.desc.Indexes, func(x api.Index) bool { return x.Name == name })
	if got := p.x.DropIndex(name); got != (at >= 0) {
		t.Fatalf("DropIndex(%q) = %v", name, got)
	}
	if at >= 0 {
		p.m.desc.Indexes = slices.Delete(slices.Clone(p.m.desc.Indexes), at, at+1)
	}
}

// TestP19_7Random plays with tables, and holds them against their models behind every step.
func TestP19_7Random(t *testing.T) {
	r := rand.New(rand.NewPCG(19, 7))
	codes := map[api.Errno]int{}
	for range 600 {
		x, m := begin(t, anyTable(r))
		p := &player{Rand: r, x: x, m: m, codes: codes}
		for range 80 {
			switch n := r.IntN(20); {
			case n < 12:
				p.apply(t)
			case n < 16:
				p.undo()
			case n < 19:
				p.put(t)
			default:
				p.drop(t)
			}
			hold(t, x, m)
		}
	}
	for _, code := range []api.Errno{api.OK, api.ErrArg, api.ErrArity, api.ErrNull, api.ErrType, api.ErrUnique, api.ErrExists, api.ErrMany, api.ErrName} {
		if codes[code] < 20 {
			t.Errorf("%d times %d", codes[code], code)
		}
	}
}

// makeAll makes changes that are right, and holds the table against its model.
func makeAll(t *testing.T, x *table.Table, m *model, list []api.Change) []api.Change {
	t.Helper()
	back, code := x.Apply(list)
	if code != api.OK {
		t.Fatalf("Apply = %d", code)
	}
	for _, c := range list {
		m.make(c)
	}
	hold(t, x, m)
	return back
}

// TestP19_7Great fills a table and empties it again, under indexes of several levels.
func TestP19_7Great(t *testing.T) {
	r := rand.New(rand.NewPCG(19, 8))
	x, m := begin(t, pairs())
	for len(m.rows) < 300 {
		var list []api.Change
		for range 100 {
			list = append(list, add(pair(int64(len(m.rows)+len(list)), pick(r, "x", "y", "z"))...))
		}
		makeAll(t, x, m, list)
	}
	var moves []api.Change
	for _, id := range m.ids() {
		moves = append(moves, set(id, whole(m.row(id)[0].Num+1), m.row(id)[1]))
	}
	back := makeAll(t, x, m, moves)
	x.Undo(back)
	m.undo(back)
	hold(t, x, m)
	for len(m.ids()) > 0 {
		ids := m.ids()
		r.Shuffle(len(ids), func(i, k int) { ids[i], ids[k] = ids[k], ids[i] })
		var list []api.Change
		for _, id := range ids[:len(ids)/3+1] {
			list = append(list, del(id))
		}
		makeAll(t, x, m, list)
	}
	if x.Len() != 0 || x.Last() != 300 {
		t.Errorf("Len = %d, Last = %d", x.Len(), x.Last())
	}
}
