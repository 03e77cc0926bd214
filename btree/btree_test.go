package btree_test

import (
	"bytes"
	"fmt"
	"math"
	"math/rand/v2"
	"slices"
	"testing"

	"hasp/api"
	"hasp/btree"
)

// key gives a key whose place is that of n among numbers of up to four digits.
func key(n int) []byte { return fmt.Appendf(nil, "%04d", n) }

// model is entries in order, in a plain list.
type model []api.Entry

func (m model) place(key []byte) (int, bool) {
	for i, e := range m {
		if c := bytes.Compare(e.Key, key); c >= 0 {
			return i, c == 0
		}
	}
	return len(m), false
}

func (m *model) put(key []byte, id int) bool {
	i, same := m.place(key)
	if !same {
		*m = slices.Insert(*m, i, api.Entry{Key: bytes.Clone(key), Id: id})
	}
	return !same
}

func (m *model) drop(key []byte) bool {
	i, same := m.place(key)
	if same {
		*m = slices.Delete(*m, i, i+1)
	}
	return same
}

func (m model) at(i int) (api.Entry, bool) {
	if i == len(m) {
		return api.Entry{}, false
	}
	return m[i], true
}

func (m model) from(key []byte) (api.Entry, bool) {
	i, _ := m.place(key)
	return m.at(i)
}

func (m model) get(key []byte) (api.Entry, bool) {
	i, same := m.place(key)
	if !same {
		return api.Entry{}, false
	}
	return m.at(i)
}

func equal(a, b api.Entry) bool { return a.Id == b.Id && bytes.Equal(a.Key, b.Key) }

// holdEntries holds a tree's entries against the model's.
func holdEntries(t *testing.T, x *btree.Tree, m model) {
	t.Helper()
	if x.Len() != len(m) {
		t.Fatalf("Len = %d, not %d", x.Len(), len(m))
	}
	if got := x.Entries(); !slices.EqualFunc(got, m, equal) {
		t.Fatalf("Entries = %v, not %v", got, m)
	}
}

// holdShape holds a tree's shape against the chapter's words.
func holdShape(t *testing.T, x *btree.Tree, n int) {
	t.Helper()
	shape := x.Shape()
	if len(shape) == 0 || len(shape[0]) != 1 {
		t.Fatalf("Shape = %v", shape)
	}
	for i, level := range shape {
		sum, least, leaf := 0, 4, i == len(shape)-1
		if i == 0 {
			least = 2
		}
		if i == 0 && leaf {
			least = 0
		}
		for _, size := range level {
			sum += size
			if size < least || size > 8 {
				t.Fatalf("a node of %d: Shape = %v", size, shape)
			}
		}
		if leaf && sum != n || !leaf && sum != len(shape[i+1]) {
			t.Fatalf("level %d has %d: Shape = %v of %d", i, sum, shape, n)
		}
	}
}

// hold asks a tree and the model the same of a key.
func hold(t *testing.T, x *btree.Tree, m model, key []byte) {
	t.Helper()
	e, ok := m.get(key)
	if id, there := x.Get(key); id != e.Id || there != ok {
		t.Fatalf("Get(%q) = %d, %v, not %d, %v", key, id, there, e.Id, ok)
	}
	e, ok = m.from(key)
	if got, there := x.From(key); !equal(got, e) || there != ok {
		t.Fatalf("From(%q) = %v, %v, not %v, %v", key, got, there, e, ok)
	}
}

func TestP7_1ByHand(t *testing.T) {
	x := btree.New()
	if _, ok := x.From(nil); ok || x.Len() != 0 || len(x.Entries()) != 0 || x.Drop(nil) || x.Drop([]byte("a")) {
		t.Error("an empty tree has something")
	}
	if !x.Put([]byte("b"), 2) || !x.Put([]byte("d"), 4) || !x.Put([]byte("a"), 1) || x.Len() != 3 {
		t.Error("Put")
	}
	if e, ok := x.From([]byte("c")); !ok || e.Id != 4 || string(e.Key) != "d" {
		t.Errorf("From(c) = %v, %v", e, ok)
	}
	if e, ok := x.From([]byte("b")); !ok || e.Id != 2 {
		t.Errorf("From(b) = %v, %v", e, ok)
	}
	if e, ok := x.From([]byte("d\x00")); ok || e.Id != 0 || len(e.Key) != 0 {
		t.Errorf("From behind all = %v, %v", e, ok)
	}
	if x.Put([]byte("b"), 9) || x.Len() != 3 {
		t.Error("Put of a key that is there")
	}
	if id, ok := x.Get([]byte("b")); id != 2 || !ok {
		t.Errorf("Get(b) = %d, %v", id, ok)
	}
	if id, ok := x.Get([]byte("c")); id != 0 || ok {
		t.Errorf("Get(c) = %d, %v", id, ok)
	}
	if x.Drop([]byte("c")) || !x.Drop([]byte("b")) || x.Drop([]byte("b")) || x.Len() != 2 {
		t.Error("Drop")
	}
	if id, ok := x.Get([]byte("b")); id != 0 || ok {
		t.Errorf("Get of what is gone = %d, %v", id, ok)
	}
	if !x.Put([]byte("b"), -7) {
		t.Error("Put of what is gone")
	}
	if id, ok := x.Get([]byte("b")); id != -7 || !ok {
		t.Errorf("Get(b) = %d, %v", id, ok)
	}
}

// odd has keys that stand close together, in their order.
func odd() []string {
	return []string{"", "\x00", "\x00\x00", "\x00\x01", "\x01", "a", "a\x00", "a\x00\x00", "a\x01", "aa", "a\xff", "b", "\x7f", "\x80", "\xc3\xa9", "\xff", "\xff\xff"}
}

func TestP7_1Order(t *testing.T) {
	list := odd()
	for turn := range len(list) {
		x, m := btree.New(), model{}
		for i := range list {
			k := []byte(list[(i*5+turn)%len(list)])
			if !x.Put(k, i) || !m.put(k, i) {
				t.Fatalf("Put(%q)", k)
			}
		}
		holdEntries(t, x, m)
		for i, e := range x.Entries() {
			if string(e.Key) != list[i] {
				t.Fatalf("entry %d is %q, not %q", i, e.Key, list[i])
			}
		}
		for i := range list {
			k := []byte(list[(i*3+turn)%len(list)])
			hold(t, x, m, k)
			if !x.Drop(k) || !m.drop(k) {
				t.Fatalf("Drop(%q)", k)
			}
			hold(t, x, m, k)
			holdEntries(t, x, m)
		}
	}
}

func TestP7_1NilAndEmptyKey(t *testing.T) {
	x := btree.New()
	if !x.Put(nil, 5) || x.Put([]byte{}, 6) {
		t.Error("Put")
	}
	if id, ok := x.Get([]byte{}); id != 5 || !ok {
		t.Errorf("Get = %d, %v", id, ok)
	}
	if e, ok := x.From(nil); e.Id != 5 || len(e.Key) != 0 || !ok {
		t.Errorf("From = %v, %v", e, ok)
	}
	if !x.Drop([]byte{}) || x.Drop(nil) {
		t.Error("Drop")
	}
}

func TestP7_1AnyId(t *testing.T) {
	x := btree.New()
	for i, id := range []int{0, -1, 1, math.MinInt, math.MaxInt} {
		x.Put(key(i), id)
		if got, ok := x.Get(key(i)); got != id || !ok {
			t.Errorf("Get = %d, %v, not %d", got, ok, id)
		}
	}
	if e, ok := x.From(key(0)); e.Id != 0 || len(e.Key) != 4 || !ok {
		t.Errorf("From = %v, %v", e, ok)
	}
}

// anyKey gives a short key of a few bytes.
func anyKey(r *rand.Rand) []byte {
	k := make([]byte, r.IntN(6))
	for i := range k {
		k[i] = "\x00\x01ab\xff"[r.IntN(5)]
	}
	return k
}

func TestP7_1Model(t *testing.T) {
	for seed := range uint64(6) {
		r := rand.New(rand.NewPCG(seed, 7))
		x, m := btree.New(), model{}
		for i := range 3000 {
			k := anyKey(r)
			// The tree grows, then it shrinks, and so on.
			if grows := i/500%2 == 0; r.IntN(4) > 0 == grows {
				if x.Put(k, i) != m.put(k, i) {
					t.Fatalf("Put(%q)", k)
				}
			} else if len(m) > 0 {
				if r.IntN(3) > 0 {
					k = m[r.IntN(len(m))].Key
				}
				if x.Drop(k) != m.drop(k) {
					t.Fatalf("Drop(%q)", k)
				}
			}
			hold(t, x, m, k)
			hold(t, x, m, anyKey(r))
			holdShape(t, x, len(m))
			if i%16 == 0 {
				holdEntries(t, x, m)
			}
		}
	}
}

func TestP7_2ByHand(t *testing.T) {
	x := btree.New()
	for n := range 9 {
		if got, want := fmt.Sprint(x.Shape()), fmt.Sprintf("[[%d]]", n); got != want {
			t.Errorf("Shape = %s, not %s", got, want)
		}
		x.Put(key(n), n)
	}
	if got := fmt.Sprint(x.Shape()); got != "[[2] [4 5]]" && got != "[[2] [5 4]]" {
		t.Errorf("Shape of nine = %s", got)
	}
	for n := range 9 {
		x.Drop(key(n))
		holdShape(t, x, 8-n)
	}
	if got := fmt.Sprint(x.Shape()); got != "[[0]]" {
		t.Errorf("Shape of none = %s", got)
	}
}

// ways has orders in which n entries may come or go.
func ways(n int) map[string][]int {
	list := map[string][]int{}
	for i := range n {
		list["rising"] = append(list["rising"], i)
		list["falling"] = append(list["falling"], n-1-i)
		list["inwards"] = append(list["inwards"], i, n-1-i)
		list["strides"] = append(list["strides"], i*7%n)
	}
	list["inwards"] = list["inwards"][:n]
	list["shuffled"] = rand.New(rand.NewPCG(1, 2)).Perm(n)
	list["outwards"] = slices.Clone(list["inwards"])
	slices.Reverse(list["outwards"])
	return list
}

func TestP7_2EveryOrder(t *testing.T) {
	const n = 400
	for in, comes := range ways(n) {
		for out, goes := range ways(n) {
			x := btree.New()
			for i, k := range comes {
				if !x.Put(key(k), k) {
					t.Fatalf("%s: Put %d", in, k)
				}
				holdShape(t, x, i+1)
			}
			for i, e := range x.Entries() {
				if e.Id != i || !bytes.Equal(e.Key, key(i)) {
					t.Fatalf("%s: entry %d is %v", in, i, e)
				}
			}
			for i, k := range goes {
				if !x.Drop(key(k)) {
					t.Fatalf("%s, %s: Drop %d", in, out, k)
				}
				holdShape(t, x, n-1-i)
			}
		}
	}
}

// TestP7_2Deep goes through a tree of several inner levels.
func TestP7_2Deep(t *testing.T) {
	const n = 9000
	x := btree.New()
	for i := range n {
		x.Put(key(i*4933%n), i*4933%n)
	}
	holdShape(t, x, n)
	if depth := len(x.Shape()); depth < 5 || depth > 7 {
		t.Errorf("%d levels", depth)
	}
	r := rand.New(rand.NewPCG(3, 4))
	there := x.Len()
	for range 3000 {
		k := r.IntN(n)
		if x.Drop(key(k)) {
			there--
		} else if x.Put(key(k), k) {
			there++
		}
		holdShape(t, x, there)
	}
	for k := range n {
		if x.Drop(key(k)) {
			there--
		}
	}
	holdShape(t, x, 0)
	if there != 0 || x.Len() != 0 {
		t.Errorf("%d and %d are left", there, x.Len())
	}
}

// TestP7_2Refused asks that calls that answer false change nothing.
func TestP7_2Refused(t *testing.T) {
	x, m := btree.New(), model{}
	for i := range 100 {
		x.Put(key(i*2), i)
		m.put(key(i*2), i)
	}
	before := fmt.Sprint(x.Shape())
	for i := range 100 {
		if x.Put(key(i*2), -1) || x.Drop(key(i*2+1)) {
			t.Fatalf("%d", i)
		}
	}
	holdEntries(t, x, m)
	if got := fmt.Sprint(x.Shape()); got != before {
		t.Errorf("Shape = %s, not %s", got, before)
	}
}
