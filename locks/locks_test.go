package locks_test

import (
	"cmp"
	"fmt"
	"math"
	"math/rand/v2"
	"slices"
	"testing"

	"hasp/api"
	"hasp/locks"
	"hasp/modes"
)

// model is locks and wishes in plain lists, the wishes as they came.
type model struct{ locks, wishes []api.Lock }

func (m *model) mode(txn int, res string) int {
	for _, l := range m.locks {
		if l.Txn == txn && l.Res == res {
			return l.Mode
		}
	}
	return 0
}

func (m *model) wish(txn int) (api.Lock, bool) {
	for _, w := range m.wishes {
		if w.Txn == txn {
			return w, true
		}
	}
	return api.Lock{}, false
}

// queue gives the changes, and behind them the others.
func (m *model) queue(res string) []api.Lock {
	var changes, others []api.Lock
	for _, w := range m.wishes {
		switch {
		case w.Res != res:
		case m.mode(w.Txn, res) != 0:
			changes = append(changes, w)
		default:
			others = append(others, w)
		}
	}
	return append(changes, others...)
}

func (m *model) free(wish api.Lock) bool {
	return !slices.ContainsFunc(m.locks, func(l api.Lock) bool {
		return l.Res == wish.Res && l.Txn != wish.Txn && !modes.Together(l.Mode, wish.Mode)
	})
}

func (m *model) grant(wish api.Lock) {
	m.locks = slices.DeleteFunc(m.locks, func(l api.Lock) bool { return l.Txn == wish.Txn && l.Res == wish.Res })
	m.locks = append(m.locks, wish)
}

func (m *model) ask(txn int, res string, mode int) int {
	if _, waits := m.wish(txn); waits || !modes.Right(mode) {
		return api.Refused
	}
	has := m.mode(txn, res)
	wish := api.Lock{Txn: txn, Res: res, Mode: modes.Join(has, mode)}
	if has == wish.Mode {
		return api.Granted
	}
	if m.free(wish) && (has != 0 || len(m.queue(res)) == 0) {
		m.grant(wish)
		return api.Granted
	}
	m.wishes = append(m.wishes, wish)
	return api.Waiting
}

func (m *model) drop(txn int) []int {
	var things []string
	for _, l := range slices.Concat(m.locks, m.wishes) {
		if l.Txn == txn {
			things = append(things, l.Res)
		}
	}
	slices.Sort(things)
	own := func(l api.Lock) bool { return l.Txn == txn }
	m.locks, m.wishes = slices.DeleteFunc(m.locks, own), slices.DeleteFunc(m.wishes, own)
	var got []int
	for _, res := range slices.Compact(things) {
		for queue := m.queue(res); len(queue) > 0 && m.free(queue[0]); queue = m.queue(res) {
			m.grant(queue[0])
			m.wishes = slices.DeleteFunc(m.wishes, func(w api.Lock) bool { return w == queue[0] })
			got = append(got, queue[0].Txn)
		}
	}
	return got
}

func (m *model) all() []api.Lock {
	list := slices.Clone(m.locks)
	slices.SortFunc(list, func(a, b api.Lock) int { return cmp.Or(cmp.Compare(a.Res, b.Res), cmp.Compare(a.Txn, b.Txn)) })
	return list
}

func (m *model) edges() []api.Edge {
	var list []api.Edge
	for _, w := range m.wishes {
		for _, l := range m.locks {
			if l.Res == w.Res && l.Txn != w.Txn && !modes.Together(l.Mode, w.Mode) {
				list = append(list, api.Edge{From: w.Txn, To: l.Txn})
			}
		}
		queue := m.queue(w.Res)
		for _, ahead := range queue[:slices.Index(queue, w)] {
			list = append(list, api.Edge{From: w.Txn, To: ahead.Txn})
		}
	}
	slices.SortFunc(list, func(a, b api.Edge) int { return cmp.Or(cmp.Compare(a.From, b.From), cmp.Compare(a.To, b.To)) })
	return slices.Compact(list)
}

// hold asks a table and the model the same of all.
func hold(t *testing.T, x *locks.Table, m *model, txns []int, things []string) {
	t.Helper()
	if got := x.Locks(); !slices.Equal(got, m.all()) {
		t.Fatalf("Locks = %v, not %v", got, m.all())
	}
	if got := x.Edges(); !slices.Equal(got, m.edges()) {
		t.Fatalf("Edges = %v, not %v", got, m.edges())
	}
	for _, res := range things {
		if got := x.Queue(res); !slices.Equal(got, m.queue(res)) {
			t.Fatalf("Queue(%q) = %v, not %v", res, got, m.queue(res))
		}
	}
	for _, txn := range txns {
		want, waits := m.wish(txn)
		if got, ok := x.Wish(txn); got != want || ok != waits {
			t.Fatalf("Wish(%d) = %v, %v, not %v", txn, got, ok, want)
		}
		for _, res := range things {
			if got := x.Mode(txn, res); got != m.mode(txn, res) {
				t.Fatalf("Mode(%d, %q) = %d", txn, res, got)
			}
		}
	}
}

// holdTogether looks whether the modes of any two locks of one thing go together, and whether a wish could be granted that stands first.
func holdTogether(t *testing.T, x *locks.Table, things []string) {
	t.Helper()
	list := x.Locks()
	for i, a := range list {
		for _, b := range list[:i] {
			if a.Res == b.Res && (a.Txn == b.Txn || !modes.Together(a.Mode, b.Mode)) {
				t.Fatalf("%v and %v", a, b)
			}
		}
	}
	for _, res := range things {
		queue := x.Queue(res)
		if len(queue) > 0 && (&model{locks: list}).free(queue[0]) {
			t.Fatalf("%v waits for nothing: %v", queue[0], list)
		}
	}
}

// play does a line of a script, and tells what came of it: "1 a S" asks, "drop 1" drops.
func play(x *locks.Table, line string) string {
	var txn int
	var res, mode string
	if n, _ := fmt.Sscanf(line, "drop %d", &txn); n == 1 {
		return fmt.Sprint(x.Drop(txn))
	}
	fmt.Sscan(line, &txn, &res, &mode)
	number := slices.Index([]string{"", "IS", "IX", "S", "SIX", "U", "X"}, mode)
	return []string{"Refused", "Granted", "Waiting"}[x.Ask(txn, res, number)]
}

// playAll plays lines, each with what must come of it.
func playAll(t *testing.T, lines ...[2]string) *locks.Table {
	t.Helper()
	x := locks.New()
	for _, l := range lines {
		if got := play(x, l[0]); got != l[1] {
			t.Errorf("%s: %s, not %s", l[0], got, l[1])
		}
	}
	return x
}

// told holds what a table tells against a text.
func told(t *testing.T, what string, got any, want string) {
	t.Helper()
	if s := fmt.Sprint(got); s != want {
		t.Errorf("%s = %s, not %s", what, s, want)
	}
}

func TestP10_1Refused(t *testing.T) {
	x := playAll(t, [2]string{"1 a S", "Granted"}, [2]string{"2 a X", "Waiting"})
	before, queue := x.Locks(), x.Queue("a")
	for _, mode := range []int{math.MinInt, -1, 0, 7, 8, 1 << 32, math.MaxInt} {
		for _, txn := range []int{1, 2, 3} {
			for _, res := range []string{"a", "b", ""} {
				if got := x.Ask(txn, res, mode); got != api.Refused {
					t.Errorf("Ask(%d, %q, %d) = %d", txn, res, mode, got)
				}
			}
		}
	}
	for mode := api.IS; mode <= api.X; mode++ {
		for _, res := range []string{"a", "b", ""} {
			if got := x.Ask(2, res, mode); got != api.Refused {
				t.Errorf("2 waits: Ask(%q, %d) = %d", res, mode, got)
			}
		}
	}
	if !slices.Equal(x.Locks(), before) || !slices.Equal(x.Queue("a"), queue) || len(x.Queue("b")) != 0 {
		t.Errorf("Locks = %v, Queue = %v", x.Locks(), x.Queue("a"))
	}
}

func TestP10_1Pairs(t *testing.T) {
	for a := api.IS; a <= api.X; a++ {
		for b := api.IS; b <= api.X; b++ {
			x := locks.New()
			x.Ask(1, "a", a)
			want := api.Waiting
			if modes.Together(a, b) {
				want = api.Granted
			}
			if got := x.Ask(2, "a", b); got != want {
				t.Errorf("%d, then %d by another: %d", a, b, got)
			}
			if got := x.Ask(1, "b", b); got != api.Granted || x.Mode(1, "b") != b {
				t.Errorf("%d of another thing: %d", b, got)
			}
		}
	}
}

func TestP10_1OwnModes(t *testing.T) {
	for a := api.IS; a <= api.X; a++ {
		for b := api.IS; b <= api.X; b++ {
			x := locks.New()
			x.Ask(1, "a", a)
			if got := x.Ask(1, "a", b); got != api.Granted || x.Mode(1, "a") != modes.Join(a, b) {
				t.Errorf("%d, then %d: %d, mode %d", a, b, got, x.Mode(1, "a"))
			}
			told(t, "Locks", x.Locks(), fmt.Sprintf("[{1 a %d}]", modes.Join(a, b)))
		}
	}
}

func TestP10_1WishesOfTheJoin(t *testing.T) {
	x := playAll(t, [2]string{"1 a S", "Granted"}, [2]string{"2 a S", "Granted"}, [2]string{"1 a IX", "Waiting"})
	told(t, "Queue", x.Queue("a"), fmt.Sprintf("[{1 a %d}]", api.SIX))
	told(t, "Drop", x.Drop(2), "[1]")
	told(t, "Locks", x.Locks(), fmt.Sprintf("[{1 a %d}]", api.SIX))
}

func TestP10_1WhoeverWaits(t *testing.T) {
	x := playAll(t,
		[2]string{"1 a S", "Granted"}, [2]string{"2 a X", "Waiting"},
		[2]string{"3 a IS", "Waiting"},                                // it goes together with 1's, but 2 waits
		[2]string{"1 a IS", "Granted"}, [2]string{"1 a S", "Granted"}, // it has that
		[2]string{"1 a U", "Granted"}, [2]string{"1 a X", "Granted"}, // changes don't stand behind 2
	)
	told(t, "Queue", x.Queue("a"), fmt.Sprintf("[{2 a %d} {3 a %d}]", api.X, api.IS))
	told(t, "Locks", x.Locks(), fmt.Sprintf("[{1 a %d}]", api.X))
}

func TestP10_1ChangesAhead(t *testing.T) {
	x := playAll(t,
		[2]string{"1 a S", "Granted"}, [2]string{"2 a S", "Granted"}, [2]string{"3 a S", "Granted"},
		[2]string{"4 a X", "Waiting"}, [2]string{"5 a IS", "Waiting"},
		[2]string{"3 a X", "Waiting"}, [2]string{"1 a IX", "Waiting"}, // in the order in which they came
		[2]string{"6 a S", "Waiting"},
	)
	told(t, "Queue", x.Queue("a"), fmt.Sprintf("[{3 a %d} {1 a %d} {4 a %d} {5 a %d} {6 a %d}]", api.X, api.SIX, api.X, api.IS, api.S))
	told(t, "Edges", x.Edges(), "[{1 2} {1 3} {3 1} {3 2} {4 1} {4 2} {4 3} {5 1} {5 3} {5 4} {6 1} {6 3} {6 4} {6 5}]")
	told(t, "Drop(3)", x.Drop(3), "[]")
	told(t, "Drop(2)", x.Drop(2), "[1]")
	told(t, "Drop(4)", x.Drop(4), "[5]")
	told(t, "Drop(1)", x.Drop(1), "[6]")
}

func TestP10_2Examples(t *testing.T) {
	playAll(t, [2]string{"1 a S", "Granted"}, [2]string{"2 a X", "Waiting"}, [2]string{"3 a S", "Waiting"}, [2]string{"drop 1", "[2]"}, [2]string{"drop 2", "[3]"})
	x := playAll(t, [2]string{"1 a S", "Granted"}, [2]string{"2 a S", "Granted"}, [2]string{"1 a X", "Waiting"}, [2]string{"3 a S", "Waiting"})
	told(t, "Edges", x.Edges(), "[{1 2} {3 1}]")
	told(t, "Drop", x.Drop(2), "[1]")
}

func TestP10_2SeveralAtOnce(t *testing.T) {
	x := playAll(t,
		[2]string{"1 a X", "Granted"},
		[2]string{"9 a S", "Waiting"}, [2]string{"2 a S", "Waiting"}, [2]string{"7 a U", "Waiting"}, [2]string{"3 a X", "Waiting"}, [2]string{"4 a S", "Waiting"},
		[2]string{"drop 1", "[9 2 7]"}, // up to the first that can't be granted, though 4 could be
	)
	told(t, "Queue", x.Queue("a"), fmt.Sprintf("[{3 a %d} {4 a %d}]", api.X, api.S))
	told(t, "Drop", x.Drop(7), "[]")
	told(t, "Drop", x.Drop(9), "[]")
	told(t, "Drop", x.Drop(2), "[3]")
	told(t, "Drop", x.Drop(3), "[4]")
}

func TestP10_2WishGone(t *testing.T) {
	x := playAll(t,
		[2]string{"1 a S", "Granted"}, [2]string{"2 a X", "Waiting"}, [2]string{"3 a S", "Waiting"},
		[2]string{"drop 2", "[3]"}, // who stood behind its wish goes on
		[2]string{"2 b X", "Granted"},
	)
	told(t, "Locks", x.Locks(), fmt.Sprintf("[{1 a %d} {3 a %d} {2 b %d}]", api.S, api.S, api.X))
	told(t, "Edges", x.Edges(), "[]")
	told(t, "Drop", x.Drop(77), "[]")
}

// TestP10_2ThingByThing drops a transaction that had and wished things, whose texts don't stand in the order in which it got them.
func TestP10_2ThingByThing(t *testing.T) {
	x := playAll(t,
		[2]string{"1 b X", "Granted"}, [2]string{"1 ab X", "Granted"}, [2]string{"1 \xff X", "Granted"}, [2]string{"1 a X", "Granted"}, [2]string{"5 aa S", "Granted"},
		[2]string{"2 b X", "Waiting"}, [2]string{"3 \xff X", "Waiting"}, [2]string{"4 a X", "Waiting"}, [2]string{"6 ab X", "Waiting"}, [2]string{"1 aa X", "Waiting"}, [2]string{"7 aa S", "Waiting"},
		[2]string{"drop 1", "[4 7 6 2 3]"},
	)
	told(t, "Locks", len(x.Locks()), "6")
}

func TestP10_2ChangeGone(t *testing.T) {
	x := playAll(t,
		[2]string{"1 a S", "Granted"}, [2]string{"2 a S", "Granted"}, [2]string{"1 a X", "Waiting"}, [2]string{"3 a U", "Waiting"},
		[2]string{"drop 1", "[3]"}, // its lock and its wish of one thing
	)
	told(t, "Locks", x.Locks(), fmt.Sprintf("[{2 a %d} {3 a %d}]", api.S, api.U))
	told(t, "Drop", x.Drop(2), "[]")
	told(t, "Drop", x.Drop(3), "[]")
	if len(x.Locks()) != 0 || x.Ask(4, "a", api.X) != api.Granted {
		t.Errorf("Locks = %v", x.Locks())
	}
}

func TestP10_3Empty(t *testing.T) {
	x := locks.New()
	if x.Mode(1, "a") != 0 || len(x.Locks()) != 0 || len(x.Queue("a")) != 0 || len(x.Edges()) != 0 || len(x.Drop(1)) != 0 {
		t.Error("an empty table has something")
	}
	if w, ok := x.Wish(1); ok || w != (api.Lock{}) {
		t.Errorf("Wish = %v, %v", w, ok)
	}
}

func TestP10_3Order(t *testing.T) {
	x := locks.New()
	for _, res := range []string{"b", "", "a\x00", "ab", "\xff", "a", "B"} {
		for _, txn := range []int{10, 9, -1, 0, math.MaxInt, math.MinInt} {
			x.Ask(txn, res, api.IS)
		}
	}
	var want []api.Lock
	for _, res := range []string{"", "B", "a", "a\x00", "ab", "b", "\xff"} {
		for _, txn := range []int{math.MinInt, -1, 0, 9, 10, math.MaxInt} {
			want = append(want, api.Lock{Txn: txn, Res: res, Mode: api.IS})
		}
	}
	if got := x.Locks(); !slices.Equal(got, want) {
		t.Errorf("Locks = %v", got)
	}
}

func TestP10_4Edges(t *testing.T) {
	x := playAll(t,
		[2]string{"1 a IS", "Granted"}, [2]string{"2 a S", "Granted"}, [2]string{"30 a IX", "Waiting"}, // for 2 alone
		[2]string{"4 a IS", "Waiting"}, // for 30, that stands ahead
		[2]string{"2 b X", "Granted"}, [2]string{"1 b S", "Waiting"}, [2]string{"-5 b IS", "Waiting"},
	)
	told(t, "Edges", x.Edges(), "[{-5 1} {-5 2} {1 2} {4 30} {30 2}]")
}

// TestP10_4Once has a transaction for whose lock and for whose wish another one waits.
func TestP10_4Once(t *testing.T) {
	x := playAll(t, [2]string{"1 a U", "Granted"}, [2]string{"2 a S", "Granted"}, [2]string{"1 a X", "Waiting"}, [2]string{"3 a X", "Waiting"})
	told(t, "Edges", x.Edges(), "[{1 2} {3 1} {3 2}]")
	told(t, "Queue", x.Queue("a"), fmt.Sprintf("[{1 a %d} {3 a %d}]", api.X, api.X))
}

// TestP10_4Ring has two changes that wait for each other.
func TestP10_4Ring(t *testing.T) {
	x := playAll(t, [2]string{"1 a S", "Granted"}, [2]string{"2 a S", "Granted"}, [2]string{"2 a X", "Waiting"}, [2]string{"1 a X", "Waiting"})
	told(t, "Edges", x.Edges(), "[{1 2} {2 1}]")
	told(t, "Drop", x.Drop(2), "[1]")
}

// TestP10_1To5ManyOrders plays many rows of calls, and asks for all behind each.
func TestP10_1To5ManyOrders(t *testing.T) {
	txns := []int{math.MinInt, -1, 0, 1, 2, 3, 40, math.MaxInt}
	for seed := range uint64(150) {
		r := rand.New(rand.NewPCG(10, seed))
		things := []string{"", "a", "ab", "b", "\xff\x00"}[:1+seed%5]
		x, m := locks.New(), &model{}
		for range 120 {
			txn, res := txns[r.IntN(len(txns))], things[r.IntN(len(things))]
			if r.IntN(5) == 0 {
				if got, want := x.Drop(txn), m.drop(txn); !slices.Equal(got, want) {
					t.Fatalf("Drop(%d) = %v, not %v", txn, got, want)
				}
			} else {
				mode := r.IntN(8)
				if got, want := x.Ask(txn, res, mode), m.ask(txn, res, mode); got != want {
					t.Fatalf("Ask(%d, %q, %d) = %d, not %d", txn, res, mode, got, want)
				}
			}
			hold(t, x, m, txns, things)
			holdTogether(t, x, things)
		}
		for _, txn := range txns {
			x.Drop(txn)
		}
		hold(t, x, &model{}, txns, things)
	}
}

// overwrite writes over a list and its spare room.
func overwrite[T any](list []T, v T) {
	list = list[:cap(list)]
	for i := range list {
		list[i] = v
	}
}

func TestP10_5NewMemory(t *testing.T) {
	x := playAll(t, [2]string{"1 a X", "Granted"}, [2]string{"1 b S", "Granted"}, [2]string{"2 a S", "Waiting"}, [2]string{"3 a X", "Waiting"}, [2]string{"4 a S", "Waiting"})
	all, queue, edges := x.Locks(), x.Queue("a"), x.Edges()
	wantAll, wantQueue, wantEdges := slices.Clone(all), slices.Clone(queue), slices.Clone(edges)
	for range 2 {
		overwrite(x.Locks(), api.Lock{Txn: 7, Res: "z", Mode: 9})
		overwrite(x.Queue("a"), api.Lock{Txn: 7, Res: "z", Mode: 9})
		overwrite(x.Edges(), api.Edge{From: 7, To: 7})
	}
	if !slices.Equal(x.Locks(), wantAll) || !slices.Equal(x.Queue("a"), wantQueue) || !slices.Equal(x.Edges(), wantEdges) {
		t.Errorf("Locks = %v, Queue = %v, Edges = %v", x.Locks(), x.Queue("a"), x.Edges())
	}
	overwrite(x.Drop(1), 7)
	told(t, "Queue", x.Queue("a"), fmt.Sprintf("[{3 a %d} {4 a %d}]", api.X, api.S))
	if !slices.Equal(all, wantAll) || !slices.Equal(queue, wantQueue) || !slices.Equal(edges, wantEdges) {
		t.Error("answers of calls ahead have changed")
	}
}

func TestRule6TablesApart(t *testing.T) {
	x, y := locks.New(), locks.New()
	x.Ask(1, "a", api.X)
	if y.Mode(1, "a") != 0 || y.Ask(2, "a", api.X) != api.Granted || x.Mode(2, "a") != 0 {
		t.Error("two tables share something")
	}
}

// TestP1ManySharers has a thing that very many transactions share, and wait for.
func TestP1ManySharers(t *testing.T) {
	const n = 50000
	x := locks.New()
	for txn := range n {
		if x.Ask(txn, "a", api.IS) != api.Granted || x.Ask(txn, "b", api.S) == api.Refused {
			t.Fatal("Ask")
		}
	}
	if x.Ask(n, "a", api.X) != api.Waiting || len(x.Locks()) != 2*n || len(x.Edges()) != n {
		t.Fatal("the locks of many")
	}
	for txn := range n {
		want := 0
		if txn == n-1 {
			want = 1
		}
		if len(x.Drop(txn)) != want {
			t.Fatal("Drop")
		}
	}
	told(t, "Locks", x.Locks(), fmt.Sprintf("[{%d a %d}]", n, api.X))
}
