package btree_test

import (
	"fmt"
	"math/rand/v2"
	"slices"
	"testing"

	"hasp/api"
	"hasp/btree"
)

// stands holds a Cursor's entry against what it should be; id -1 stands for none.
func stands(t *testing.T, c *btree.Cursor, key string, id int) {
	t.Helper()
	e, ok := c.Entry()
	if id < 0 {
		if ok || e.Id != 0 || len(e.Key) != 0 {
			t.Errorf("Entry = %v, %v, not none", e, ok)
		}
	} else if !ok || e.Id != id || string(e.Key) != key {
		t.Errorf("Entry = %v, %v, not %q, %d", e, ok, key, id)
	}
}

func TestP7_3ByHand(t *testing.T) {
	x := btree.New()
	for _, s := range []string{"b", "d", "a"} {
		x.Put([]byte(s), int(s[0]))
	}
	c := x.Seek([]byte("b"))
	stands(t, c, "b", 'b')
	x.Drop([]byte("b"))
	stands(t, c, "", -1)
	x.Put([]byte("c"), 3)
	stands(t, c, "", -1)
	if !c.Next() {
		t.Error("Next")
	}
	stands(t, c, "c", 3)
	if !c.Next() {
		t.Error("Next")
	}
	stands(t, c, "d", 'd')
	if c.Next() {
		t.Error("Next at the last")
	}
	stands(t, c, "", -1)
}

func TestP7_3BetweenKeys(t *testing.T) {
	x := btree.New()
	x.Put([]byte("b"), 1)
	x.Put([]byte("b\x00"), 2)
	x.Put([]byte("b\x00\x00"), 3)
	c := x.Seek([]byte("a"))
	stands(t, c, "b", 1)
	for n, k := range []string{"b\x00", "b\x00\x00"} {
		if !c.Next() {
			t.Error("Next")
		}
		stands(t, c, k, n+2)
	}
	if c.Next() {
		t.Error("Next at the last")
	}
}

func TestP7_3EmptyKey(t *testing.T) {
	x := btree.New()
	x.Put(nil, 4)
	c := x.Seek(nil)
	stands(t, c, "", 4)
	x.Drop(nil)
	stands(t, c, "", -1)
	x.Put([]byte{0}, 5)
	if !c.Next() {
		t.Error("Next")
	}
	stands(t, c, "\x00", 5)
}

// TestP7_3KeyComesBack: a Cursor stands at a key, whichever entry has it.
func TestP7_3KeyComesBack(t *testing.T) {
	x := btree.New()
	x.Put([]byte("k"), 1)
	c := x.Seek(nil)
	x.Drop([]byte("k"))
	x.Put([]byte("j"), 2)
	stands(t, c, "", -1)
	x.Put([]byte("k"), 3)
	stands(t, c, "k", 3)
}

// TestP7_3End: what has come to the end stays there, though entries come behind.
func TestP7_3End(t *testing.T) {
	x := btree.New()
	none := x.Seek(nil)
	x.Put([]byte("k"), 1)
	behind := x.Seek([]byte("l"))
	gone := x.Seek(nil)
	if gone.Next() {
		t.Error("Next at the last")
	}
	x.Put([]byte("z"), 2)
	x.Put(nil, 3)
	for _, c := range []*btree.Cursor{none, behind, gone} {
		stands(t, c, "", -1)
		if c.Next() || c.Next() {
			t.Error("Next at the end")
		}
		stands(t, c, "", -1)
	}
}

// TestP7_3LastDropped: behind a dropped key there may be nothing.
func TestP7_3LastDropped(t *testing.T) {
	x := btree.New()
	x.Put([]byte("k"), 1)
	c := x.Seek([]byte("k"))
	x.Drop([]byte("k"))
	x.Put([]byte("a"), 2)
	if c.Next() {
		t.Error("Next")
	}
	x.Put([]byte("k"), 3)
	stands(t, c, "", -1)
}

// TestP7_3ByThemselves: of cursors that stand at one key one goes on.
func TestP7_3ByThemselves(t *testing.T) {
	x := btree.New()
	for i := range 30 {
		x.Put(key(i), i)
	}
	a, b := x.Seek(key(7)), x.Seek(key(7))
	for range 5 {
		a.Next()
	}
	stands(t, a, string(key(12)), 12)
	stands(t, b, string(key(7)), 7)
}

func TestP7_3ChangesNothing(t *testing.T) {
	x, m := btree.New(), model{}
	for i := range 200 {
		x.Put(key(i), i)
		m.put(key(i), i)
	}
	before := fmt.Sprint(x.Shape())
	n := 0
	for c := x.Seek(nil); ; n++ {
		stands(t, c, string(key(n)), n)
		if !c.Next() {
			break
		}
	}
	if n != 199 {
		t.Errorf("%d times Next", n)
	}
	holdEntries(t, x, m)
	if got := fmt.Sprint(x.Shape()); got != before {
		t.Errorf("Shape = %s, not %s", got, before)
	}
}

// mark is a model's Cursor.
type mark struct {
	key   []byte
	ended bool
}

func (k *mark) set(e api.Entry, ok bool) { k.key, k.ended = e.Key, !ok }

func TestP7_3Model(t *testing.T) {
	for seed := range uint64(8) {
		r := rand.New(rand.NewPCG(seed, 11))
		x, m := btree.New(), model{}
		cursors, marks := make([]*btree.Cursor, 5), make([]mark, 5)
		seek := func(i int) {
			k := anyKey(r)
			cursors[i] = x.Seek(k)
			marks[i].set(m.from(k))
		}
		for i := range cursors {
			seek(i)
		}
		for step := range 4000 {
			i, k := r.IntN(len(cursors)), anyKey(r)
			switch n := r.IntN(10); {
			case n < 4:
				x.Put(k, step)
				m.put(k, step)
			case n < 6:
				x.Drop(k)
				m.drop(k)
			case n == 6:
				x.Drop(marks[i].key)
				m.drop(marks[i].key)
			case n < 9:
				if !marks[i].ended {
					marks[i].set(m.from(append(slices.Clone(marks[i].key), 0)))
				}
				if got := cursors[i].Next(); got == marks[i].ended {
					t.Fatalf("Next = %v at %v", got, marks[i])
				}
			case marks[i].ended:
				seek(i)
			}
			for i, c := range cursors {
				want, there := m.get(marks[i].key)
				if marks[i].ended {
					want, there = api.Entry{}, false
				}
				if e, ok := c.Entry(); !equal(e, want) || ok != there {
					t.Fatalf("Entry = %v, %v, not %v, %v", e, ok, want, there)
				}
			}
		}
	}
}

// within gives a copy of b in the midst of other bytes, which spare room that is written to would show.
func within(b []byte) (whole, part []byte) {
	whole = append(append([]byte("<<<"), b...), ">>>>>>>>"...)
	return whole, whole[3 : 3+len(b)]
}

func TestP7_4HandedIn(t *testing.T) {
	x, m := btree.New(), model{}
	for i := range 60 {
		whole, part := within(key(i))
		before := string(whole)
		x.Put(part, i)
		x.Put(part, i)
		x.Get(part)
		x.From(part)
		x.Drop([]byte("none"))
		c := x.Seek(part)
		if string(whole) != before {
			t.Fatalf("%q became %q", before, whole)
		}
		clear(whole)
		m.put(key(i), i)
		stands(t, c, string(key(i)), i)
	}
	holdEntries(t, x, m)
	for i := range 60 {
		whole, part := within(key(i))
		x.Drop(part)
		m.drop(key(i))
		if string(part) != string(key(i)) {
			t.Fatalf("Drop changed %q", whole)
		}
	}
	holdEntries(t, x, m)
}

// spoil writes over a key, its spare room too.
func spoil(key []byte) {
	for i := range key[:cap(key)] {
		key[:cap(key)][i] = 'x'
	}
}

func TestP7_4Answers(t *testing.T) {
	x, m := btree.New(), model{}
	for i := range 60 {
		x.Put(key(i), i)
		m.put(key(i), i)
	}
	for i := range 60 {
		c := x.Seek(key(i))
		one, _ := c.Entry()
		two, _ := x.From(key(i))
		three, _ := c.Entry()
		spoil(one.Key)
		stands(t, c, string(key(i)), i)
		if string(two.Key) != string(key(i)) || string(three.Key) != string(key(i)) {
			t.Fatalf("answers share: %v, %v", two, three)
		}
		spoil(two.Key)
	}
	holdEntries(t, x, m)
	one, two := x.Entries(), x.Entries()
	for i := range one {
		spoil(one[i].Key)
		for _, e := range one[i+1:] {
			if string(e.Key) != string(key(e.Id)) {
				t.Fatalf("keys of one answer share: %v", e)
			}
		}
	}
	clear(one[:cap(one)])
	if !slices.EqualFunc(two, m, equal) {
		t.Errorf("answers share: %v", two)
	}
	holdEntries(t, x, m)
	first, second := x.Shape(), x.Shape()
	before := fmt.Sprint(second)
	for i, level := range first {
		clear(level[:cap(level)])
		if i+1 < len(first) && slices.Contains(first[i+1], 0) {
			t.Errorf("levels share: %v", first)
		}
	}
	clear(first[:cap(first)])
	if got := fmt.Sprint(second); got != before || fmt.Sprint(x.Shape()) != before {
		t.Errorf("Shape = %s, not %s", got, before)
	}
	holdShape(t, x, 60)
}

// TestP1P2AnyArguments plays the same calls on two trees, and asks a third one that they leave alone.
func TestP1P2AnyArguments(t *testing.T) {
	r := rand.New(rand.NewPCG(5, 6))
	long := make([]byte, 1000)
	third := btree.New()
	third.Put([]byte("alone"), 1)
	one, two := btree.New(), btree.New()
	play := func(x *btree.Tree, what int, k []byte, id int) string {
		switch what {
		case 0, 1:
			return fmt.Sprint(x.Put(k, id))
		case 2:
			return fmt.Sprint(x.Drop(k))
		}
		id, ok := x.Get(k)
		e, there := x.From(k)
		c := x.Seek(k)
		next := c.Next()
		at, stands := c.Entry()
		return fmt.Sprint(id, ok, e, there, next, at, stands, x.Len(), x.Shape(), x.Entries())
	}
	for range 1000 {
		what, k, id := r.IntN(4), anyKey(r), int(r.Int64()-r.Int64())
		if r.IntN(50) == 0 {
			k = long[:r.IntN(len(long))]
		}
		if a, b := play(one, what, k, id), play(two, what, k, id); a != b {
			t.Fatalf("%d of %.20q: %s and %s", what, k, a, b)
		}
	}
	if e := third.Entries(); len(e) != 1 || string(e[0].Key) != "alone" || e[0].Id != 1 {
		t.Errorf("another tree's Entries = %v", e)
	}
}
