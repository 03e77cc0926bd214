package heap_test

import (
	"bytes"
	"fmt"
	"math"
	"math/rand/v2"
	"slices"
	"testing"

	"hasp/heap"
)

// model is a heap in plain lists: the numbers that the slots hold (0: none), and the rows under all numbers that were given.
type model struct {
	slots []int
	rows  [][]byte
}

func (m *model) slot(id int) int {
	if id < 1 {
		return -1
	}
	return slices.Index(m.slots, id)
}

func (m *model) lay(id int, row []byte) {
	i := slices.Index(m.slots, 0)
	if i < 0 {
		i = len(m.slots)
		m.slots = append(m.slots, make([]int, 16)...)
	}
	m.slots[i] = id
	m.rows[id-1] = bytes.Clone(row)
}

func (m *model) add(row []byte) int {
	m.rows = append(m.rows, nil)
	m.lay(len(m.rows), row)
	return len(m.rows)
}

func (m *model) back(id int, row []byte) bool {
	if id < 1 || id > len(m.rows) || m.slot(id) >= 0 {
		return false
	}
	m.lay(id, row)
	return true
}

func (m *model) set(id int, row []byte) bool {
	if m.slot(id) < 0 {
		return false
	}
	m.rows[id-1] = bytes.Clone(row)
	return true
}

func (m *model) drop(id int) bool {
	i := m.slot(id)
	if i >= 0 {
		m.slots[i] = 0
	}
	return i >= 0
}

func (m *model) pages() []int {
	var pages []int
	last := 0
	for p := range slices.Chunk(m.slots, 16) {
		n := 0
		for _, id := range p {
			if id > 0 {
				n++
			}
		}
		pages = append(pages, n)
		if n > 0 {
			last = len(pages)
		}
	}
	return pages[:last]
}

func (m *model) behind(id int) (int, bool) {
	for id = max(id, 0); id < len(m.rows); {
		id++
		if m.slot(id) >= 0 {
			return id, true
		}
	}
	return 0, false
}

// holdOne asks a heap and the model the same of a number.
func holdOne(t *testing.T, h *heap.Heap, m *model, id int) {
	t.Helper()
	i := m.slot(id)
	row, ok := h.Get(id)
	page, slot := h.Place(id)
	if i < 0 {
		if ok || len(row) != 0 || page != -1 || slot != -1 {
			t.Fatalf("%d isn't there: Get = %q, %v; Place = %d, %d", id, row, ok, page, slot)
		}
	} else if !ok || !bytes.Equal(row, m.rows[id-1]) || page != i/16 || slot != i%16 {
		t.Fatalf("%d: Get = %q, %v; Place = %d, %d", id, row, ok, page, slot)
	}
	want, there := m.behind(id)
	if got, ok := h.Behind(id); got != want || ok != there {
		t.Fatalf("Behind(%d) = %d, %v, not %d, %v", id, got, ok, want, there)
	}
}

// holdAll asks a heap and the model the same of all.
func holdAll(t *testing.T, h *heap.Heap, m *model) {
	t.Helper()
	n := 0
	for _, size := range m.pages() {
		n += size
	}
	if h.Len() != n || h.Last() != len(m.rows) {
		t.Fatalf("Len = %d, Last = %d, not %d, %d", h.Len(), h.Last(), n, len(m.rows))
	}
	if got := h.Pages(); !slices.Equal(got, m.pages()) {
		t.Fatalf("Pages = %v, not %v", got, m.pages())
	}
	for id := -1; id <= len(m.rows)+1; id++ {
		holdOne(t, h, m, id)
	}
}

// edges has numbers that no row has.
func edges() []int { return []int{math.MinInt, math.MinInt + 1, -1, 0, math.MaxInt - 1, math.MaxInt} }

func TestP8_1ByHand(t *testing.T) {
	h := heap.New()
	for n := 1; n <= 3; n++ {
		if id := h.Add([]byte{byte(n)}); id != n {
			t.Errorf("Add = %d, not %d", id, n)
		}
		if page, slot := h.Place(n); page != 0 || slot != n-1 {
			t.Errorf("Place = %d, %d", page, slot)
		}
	}
	if !h.Drop(1) {
		t.Error("Drop")
	}
	if id := h.Add(nil); id != 4 {
		t.Errorf("Add = %d", id)
	}
	if page, slot := h.Place(4); page != 0 || slot != 0 {
		t.Errorf("Place = %d, %d", page, slot)
	}
	if !h.Back(1, []byte("back")) {
		t.Error("Back")
	}
	if page, slot := h.Place(1); page != 0 || slot != 3 {
		t.Errorf("Place = %d, %d", page, slot)
	}
	if row, ok := h.Get(1); string(row) != "back" || !ok {
		t.Errorf("Get = %q, %v", row, ok)
	}
}

func TestP8_1NumbersAreNotUsedAgain(t *testing.T) {
	h := heap.New()
	for n := 1; n <= 50; n++ {
		if id := h.Add(nil); id != n {
			t.Fatalf("Add = %d, not %d", id, n)
		}
		if page, slot := h.Place(n); page != 0 || slot != 0 {
			t.Errorf("Place = %d, %d", page, slot)
		}
		if !h.Drop(n) || h.Last() != n || h.Len() != 0 {
			t.Errorf("Drop: Last = %d, Len = %d", h.Last(), h.Len())
		}
	}
	if !h.Back(7, nil) || h.Last() != 50 || h.Add(nil) != 51 {
		t.Error("a number is used again behind Back")
	}
}

func TestP8_1BackRefused(t *testing.T) {
	h, m := heap.New(), &model{}
	if h.Back(1, nil) || h.Back(0, nil) {
		t.Error("Back of what was never given")
	}
	for range 20 {
		h.Add([]byte("row"))
		m.add([]byte("row"))
	}
	h.Drop(3)
	m.drop(3)
	for _, id := range append(edges(), 1, 20, 21, 22) {
		if h.Back(id, []byte("no")) {
			t.Errorf("Back(%d)", id)
		}
	}
	holdAll(t, h, m)
	if !h.Back(3, []byte("yes")) || h.Back(3, []byte("no")) {
		t.Error("Back(3)")
	}
	m.back(3, []byte("yes"))
	holdAll(t, h, m)
}

// TestP8_1FirstFree frees slots of several pages: they are taken by page, then by slot, then a new page is.
func TestP8_1FirstFree(t *testing.T) {
	h, m := heap.New(), &model{}
	for range 64 {
		h.Add([]byte("a"))
		m.add([]byte("a"))
	}
	for _, id := range []int{64, 20, 2, 49, 33, 16, 17, 32, 1} {
		h.Drop(id)
		m.drop(id)
	}
	for n, place := range []int{0, 1, 15, 16, 19, 31, 32, 48, 63, 64, 65} {
		id := h.Add([]byte("b"))
		if page, slot := h.Place(id); page != place/16 || slot != place%16 {
			t.Errorf("%d: Place = %d, %d", n, page, slot)
		}
		m.add([]byte("b"))
		holdAll(t, h, m)
	}
}

func TestP8_2ByHand(t *testing.T) {
	h := heap.New()
	if h.Len() != 0 || h.Last() != 0 || h.Drop(1) || h.Set(1, nil) {
		t.Error("an empty heap has something")
	}
	h.Add([]byte("one"))
	h.Add(nil)
	h.Add([]byte{})
	if row, ok := h.Get(1); string(row) != "one" || !ok {
		t.Errorf("Get = %q, %v", row, ok)
	}
	for _, id := range []int{2, 3} {
		if row, ok := h.Get(id); len(row) != 0 || !ok {
			t.Errorf("Get of a row without bytes = %q, %v", row, ok)
		}
	}
	if !h.Set(2, []byte("longer than it was")) || !h.Set(1, nil) {
		t.Error("Set")
	}
	if row, ok := h.Get(2); string(row) != "longer than it was" || !ok {
		t.Errorf("Get = %q, %v", row, ok)
	}
	if row, ok := h.Get(1); len(row) != 0 || !ok {
		t.Errorf("Get = %q, %v", row, ok)
	}
	if page, slot := h.Place(2); page != 0 || slot != 1 || h.Len() != 3 || h.Last() != 3 {
		t.Errorf("Place behind Set = %d, %d", page, slot)
	}
	if !h.Drop(2) || h.Drop(2) || h.Set(2, []byte("x")) {
		t.Error("Drop")
	}
	if row, ok := h.Get(2); len(row) != 0 || ok {
		t.Errorf("Get of what is gone = %q, %v", row, ok)
	}
	if h.Len() != 2 || h.Last() != 3 {
		t.Errorf("Len = %d, Last = %d", h.Len(), h.Last())
	}
}

func TestP8_2WrongNumbers(t *testing.T) {
	h, m := heap.New(), &model{}
	for range 2 {
		for _, id := range append(edges(), len(m.rows)+1) {
			if h.Set(id, []byte("x")) || h.Drop(id) {
				t.Errorf("Set or Drop of %d", id)
			}
			holdOne(t, h, m, id)
		}
		holdAll(t, h, m)
		h.Add([]byte("row"))
		m.add([]byte("row"))
	}
}

func TestP8_3Behind(t *testing.T) {
	h := heap.New()
	if id, ok := h.Behind(0); id != 0 || ok {
		t.Errorf("Behind in an empty heap = %d, %v", id, ok)
	}
	for range 300 {
		h.Add(nil)
	}
	for id := 1; id <= 300; id++ {
		if id%100 != 0 {
			h.Drop(id)
		}
	}
	for _, c := range []struct{ id, want int }{
		{math.MinInt, 100}, {-1, 100}, {0, 100}, {99, 100}, {100, 200}, {101, 200}, {255, 300}, {256, 300}, {299, 300},
	} {
		if got, ok := h.Behind(c.id); got != c.want || !ok {
			t.Errorf("Behind(%d) = %d, %v, not %d", c.id, got, ok, c.want)
		}
	}
	for _, id := range []int{300, 301, math.MaxInt - 1, math.MaxInt} {
		if got, ok := h.Behind(id); got != 0 || ok {
			t.Errorf("Behind(%d) = %d, %v", id, got, ok)
		}
	}
	h.Drop(300)
	if got, ok := h.Behind(200); got != 0 || ok {
		t.Errorf("Behind(200) = %d, %v", got, ok)
	}
	h.Back(150, nil)
	if got, ok := h.Behind(100); got != 150 || !ok {
		t.Errorf("Behind(100) = %d, %v", got, ok)
	}
}

func TestP8_3Pages(t *testing.T) {
	h := heap.New()
	hold := func(want string) {
		t.Helper()
		if got := fmt.Sprint(h.Pages()); got != want {
			t.Errorf("Pages = %s, not %s", got, want)
		}
	}
	hold("[]")
	for range 33 {
		h.Add(nil)
	}
	hold("[16 16 1]")
	for id := 17; id <= 32; id++ {
		h.Drop(id)
	}
	hold("[16 0 1]")
	h.Drop(33)
	hold("[16]")
	h.Add(nil)
	hold("[16 1]")
	if page, slot := h.Place(34); page != 1 || slot != 0 {
		t.Errorf("Place = %d, %d", page, slot)
	}
	for id := 1; id <= 16; id++ {
		h.Drop(id)
	}
	hold("[0 1]")
	h.Drop(34)
	hold("[]")
	h.Back(20, nil)
	hold("[1]")
	if page, slot := h.Place(20); page != 0 || slot != 0 {
		t.Errorf("Place = %d, %d", page, slot)
	}
}

func TestModel(t *testing.T) {
	for seed := range uint64(6) {
		r := rand.New(rand.NewPCG(seed, 3))
		h, m := heap.New(), &model{}
		for i := range 1500 {
			// The heap grows, then it shrinks, and so on.
			n, id, row := r.IntN(6), r.IntN(len(m.rows)+2), fmt.Append(nil, i)
			if i/250%2 == 1 && n < 3 {
				n = 5
			}
			switch {
			case n < 2:
				if got, want := h.Add(row), m.add(row); got != want {
					t.Fatalf("Add = %d, not %d", got, want)
				}
			case n == 2:
				if got, want := h.Back(id, row), m.back(id, row); got != want {
					t.Fatalf("Back(%d) = %v", id, got)
				}
			case n == 3:
				if got, want := h.Set(id, row), m.set(id, row); got != want {
					t.Fatalf("Set(%d) = %v", id, got)
				}
			default:
				id, _ = m.behind(id)
				if got, want := h.Drop(id), m.drop(id); got != want {
					t.Fatalf("Drop(%d) = %v", id, got)
				}
			}
			holdOne(t, h, m, id)
			if !slices.Equal(h.Pages(), m.pages()) {
				t.Fatalf("Pages = %v, not %v", h.Pages(), m.pages())
			}
			if i%25 == 0 {
				holdAll(t, h, m)
			}
		}
	}
}

// within gives a copy of b in the midst of other bytes, which spare room that is written to would show.
func within(b []byte) (whole, part []byte) {
	whole = append(append([]byte("<<<"), b...), ">>>>>>>>"...)
	return whole, whole[3 : 3+len(b)]
}

func TestP8_4HandedIn(t *testing.T) {
	h := heap.New()
	h.Add(nil)
	h.Add(nil)
	h.Drop(2)
	for _, call := range []func(row []byte) int{
		func(row []byte) int { return h.Add(row) },
		func(row []byte) int { h.Set(1, row); return 1 },
		func(row []byte) int { h.Back(2, row); return 2 },
	} {
		whole, part := within([]byte("row"))
		id := call(part)
		if string(whole) != "<<<row>>>>>>>>" {
			t.Errorf("what is handed in became %q", whole)
		}
		clear(whole)
		if row, ok := h.Get(id); string(row) != "row" || !ok {
			t.Errorf("Get(%d) = %q, %v", id, row, ok)
		}
	}
}

func TestP8_4Answers(t *testing.T) {
	h := heap.New()
	for range 20 {
		h.Add([]byte("row"))
	}
	one, _ := h.Get(1)
	two, _ := h.Get(1)
	clear(one[:cap(one)])
	three, _ := h.Get(1)
	if string(two) != "row" || string(three) != "row" {
		t.Errorf("Get shares: %q, %q", two, three)
	}
	first, second := h.Pages(), h.Pages()
	clear(first[:cap(first)])
	if !slices.Equal(second, []int{16, 4}) || !slices.Equal(h.Pages(), []int{16, 4}) {
		t.Errorf("Pages shares: %v", second)
	}
}

// TestP1P2AnyArguments plays the same calls on two heaps, and asks a third one that they leave alone.
func TestP1P2AnyArguments(t *testing.T) {
	r := rand.New(rand.NewPCG(5, 6))
	third := heap.New()
	third.Add([]byte("alone"))
	one, two := heap.New(), heap.New()
	play := func(h *heap.Heap, what, id int, row []byte) string {
		switch what {
		case 0:
			return fmt.Sprint(h.Add(row))
		case 1:
			return fmt.Sprint(h.Back(id, row))
		case 2:
			return fmt.Sprint(h.Set(id, row))
		case 3:
			return fmt.Sprint(h.Drop(id))
		}
		got, ok := h.Get(id)
		next, there := h.Behind(id)
		page, slot := h.Place(id)
		return fmt.Sprint(got, ok, next, there, page, slot, h.Len(), h.Last(), h.Pages())
	}
	for range 4000 {
		what, id, row := r.IntN(5), r.IntN(60), make([]byte, r.IntN(300))
		if r.IntN(8) == 0 {
			id = edges()[r.IntN(len(edges()))]
		}
		if a, b := play(one, what, id, row), play(two, what, id, row); a != b {
			t.Fatalf("%d of %d: %s and %s", what, id, a, b)
		}
	}
	if row, ok := third.Get(1); string(row) != "alone" || !ok || third.Len() != 1 || third.Last() != 1 {
		t.Errorf("another heap's Get = %q, %v", row, ok)
	}
}
