package waits_test

import (
	"math"
	"math/rand/v2"
	"slices"
	"testing"

	"hasp/api"
	"hasp/waits"
)

// edges gives the edges from each first to each second number.
func edges(pairs ...[2]int) []api.Edge {
	var list []api.Edge
	for _, p := range pairs {
		list = append(list, api.Edge{From: p[0], To: p[1]})
	}
	return list
}

// ring gives the edges of a ring of n transactions from 0 on.
func ring(n int) []api.Edge {
	var list []api.Edge
	for i := range n {
		list = append(list, api.Edge{From: i, To: (i + 1) % n})
	}
	return list
}

// mixed gives the edges in another order, some of them twice.
func mixed(list []api.Edge, r *rand.Rand) []api.Edge {
	more := slices.Clone(list)
	for range len(list) {
		more = append(more, list[r.IntN(len(list))])
	}
	r.Shuffle(len(more), func(i, j int) { more[i], more[j] = more[j], more[i] })
	return more
}

// reach gives for the nodes of a graph, by their numbers, which ones can be reached along one edge or more.
func reach(nodes []int, list []api.Edge) map[api.Edge]bool {
	far := map[api.Edge]bool{}
	for _, e := range list {
		far[e] = true
	}
	for _, via := range nodes {
		for _, a := range nodes {
			for _, b := range nodes {
				if far[api.Edge{From: a, To: via}] && far[api.Edge{From: via, To: b}] {
					far[api.Edge{From: a, To: b}] = true
				}
			}
		}
	}
	return far
}

// walk is the search of P11.1 as it is told, over nodes by rising numbers.
func walk(nodes []int, list []api.Edge, met map[int]bool, way []int) []int {
	from, at := way[0], way[len(way)-1]
	met[at] = true
	if slices.Contains(list, api.Edge{From: at, To: from}) {
		return way
	}
	for _, to := range nodes {
		if slices.Contains(list, api.Edge{From: at, To: to}) && !met[to] {
			if found := walk(nodes, list, met, append(slices.Clone(way), to)); found != nil {
				return found
			}
		}
	}
	return nil
}

// holdCycle looks whether a cycle is one, and begins where it should.
func holdCycle(t *testing.T, list []api.Edge, from int, cycle []int) {
	t.Helper()
	if cycle[0] != from {
		t.Fatalf("%v: Cycle(%d) = %v", list, from, cycle)
	}
	for i, at := range cycle {
		next := cycle[(i+1)%len(cycle)]
		if !slices.Contains(list, api.Edge{From: at, To: next}) || slices.Index(cycle, at) != i {
			t.Fatalf("%v: Cycle(%d) = %v is none", list, from, cycle)
		}
	}
}

func TestP11_1ByHand(t *testing.T) {
	example := edges([2]int{1, 2}, [2]int{2, 3}, [2]int{3, 1}, [2]int{2, 4})
	for i, c := range []struct {
		edges []api.Edge
		from  int
		want  []int
	}{
		{example, 2, []int{2, 3, 1}},
		{example, 1, []int{1, 2, 3}},
		{example, 3, []int{3, 1, 2}},
		{example, 4, nil},
		{example, 5, nil},
		{nil, 0, nil},
		{edges([2]int{5, 5}), 5, []int{5}},
		{edges([2]int{5, 5}), 4, nil},
		{edges([2]int{1, 5}, [2]int{5, 5}), 1, nil},
		// At 2 the way back is looked for ahead of the edge to 0.
		{edges([2]int{1, 2}, [2]int{2, 1}, [2]int{2, 0}, [2]int{0, 1}), 1, []int{1, 2}},
		// At 1 its own edge is looked for ahead of the others.
		{edges([2]int{1, 0}, [2]int{0, 1}, [2]int{1, 1}), 1, []int{1}},
		// First into the depth, though there is a shorter way by 3 alone.
		{edges([2]int{1, 2}, [2]int{1, 3}, [2]int{2, 3}, [2]int{3, 1}), 1, []int{1, 2, 3}},
		// By rising numbers, those below 0 first.
		{edges([2]int{1, 3}, [2]int{1, 2}, [2]int{1, -4}, [2]int{3, 1}, [2]int{2, 1}, [2]int{-4, 1}), 1, []int{1, -4}},
		{edges([2]int{1, 10}, [2]int{1, 9}, [2]int{10, 1}, [2]int{9, 1}), 1, []int{1, 9}},
		// 2 leads nowhere, and 3 that was met there isn't gone to again; 4 leads back.
		{edges([2]int{1, 2}, [2]int{2, 3}, [2]int{1, 3}, [2]int{1, 4}, [2]int{4, 3}, [2]int{4, 1}), 1, []int{1, 4}},
		// A ring on the way that 1 doesn't lie on.
		{edges([2]int{1, 2}, [2]int{2, 3}, [2]int{3, 2}, [2]int{3, 1}), 1, []int{1, 2, 3}},
		{edges([2]int{1, 2}, [2]int{2, 3}, [2]int{3, 2}), 1, nil},
		{edges([2]int{math.MinInt, math.MaxInt}, [2]int{math.MaxInt, 0}, [2]int{0, math.MinInt}), 0, []int{0, math.MinInt, math.MaxInt}},
	} {
		if got := waits.Cycle(c.edges, c.from); !slices.Equal(got, c.want) {
			t.Errorf("%d: Cycle = %v, not %v", i, got, c.want)
		}
	}
}

// graphs gives all graphs over nodes, edges from a node to itself too.
func graphs(nodes []int, yield func([]api.Edge)) {
	n := len(nodes)
	for bits := range 1 << (n * n) {
		var list []api.Edge
		for i := range n * n {
			if bits>>i&1 == 1 {
				list = append(list, api.Edge{From: nodes[i/n], To: nodes[i%n]})
			}
		}
		yield(list)
	}
}

func TestP11_1And2AllSmallGraphs(t *testing.T) {
	for _, nodes := range [][]int{{7}, {-1, 0}, {math.MinInt, 2, math.MaxInt}, {-3, 0, 1, 12}} {
		graphs(nodes, func(list []api.Edge) {
			far, any := reach(nodes, list), false
			for _, from := range nodes {
				lies := far[api.Edge{From: from, To: from}]
				any = any || lies
				got := waits.Cycle(list, from)
				if lies != (len(got) > 0) {
					t.Fatalf("%v: Cycle(%d) = %v", list, from, got)
				}
				if lies {
					holdCycle(t, list, from, got)
				}
				if want := walk(nodes, list, map[int]bool{}, []int{from}); !slices.Equal(got, want) {
					t.Fatalf("%v: Cycle(%d) = %v, not %v", list, from, got, want)
				}
			}
			if got := waits.Any(list); got != any {
				t.Fatalf("%v: Any = %v", list, got)
			}
		})
	}
}

func TestP11_2Any(t *testing.T) {
	for i, c := range []struct {
		edges []api.Edge
		want  bool
	}{
		{nil, false},
		{edges([2]int{1, 2}), false},
		{edges([2]int{1, 1}), true},
		{edges([2]int{1, 2}, [2]int{2, 1}), true},
		{edges([2]int{1, 2}, [2]int{1, 2}), false},
		{edges([2]int{1, 2}, [2]int{1, 3}, [2]int{2, 4}, [2]int{3, 4}), false},
		{edges([2]int{1, 2}, [2]int{2, 3}, [2]int{3, 2}, [2]int{3, 4}), true},
		{edges([2]int{0, 1}, [2]int{8, 9}, [2]int{9, 8}), true},
	} {
		if got := waits.Any(c.edges); got != c.want {
			t.Errorf("%d: Any = %v", i, got)
		}
	}
}

func TestP11_2Victim(t *testing.T) {
	for _, c := range []struct {
		cycle []int
		want  int
	}{
		{nil, 0}, {[]int{}, 0}, {[]int{2, 3, 1}, 3}, {[]int{5}, 5}, {[]int{9, 3}, 9}, {[]int{1, 10, 9}, 10}, {[]int{-3, -5}, -3}, {[]int{-5, 0, -3}, 0}, {[]int{4, 4}, 4},
		{[]int{math.MinInt}, math.MinInt}, {[]int{math.MinInt, math.MaxInt}, math.MaxInt},
	} {
		if got := waits.Victim(c.cycle); got != c.want {
			t.Errorf("Victim(%v) = %d, not %d", c.cycle, got, c.want)
		}
	}
}

func TestP11_3OrderAndTwice(t *testing.T) {
	r := rand.New(rand.NewPCG(11, 3))
	for range 2000 {
		var list []api.Edge
		for range 1 + r.IntN(14) {
			list = append(list, api.Edge{From: r.IntN(7), To: r.IntN(7)})
		}
		other := mixed(list, r)
		if waits.Any(list) != waits.Any(other) {
			t.Fatalf("Any of %v and of %v", list, other)
		}
		for from := range 7 {
			if a, b := waits.Cycle(list, from), waits.Cycle(other, from); !slices.Equal(a, b) {
				t.Fatalf("%v, %v: Cycle(%d) = %v, %v", list, other, from, a, b)
			}
		}
	}
}

func TestP11_3HandedInStays(t *testing.T) {
	room := edges([2]int{3, 1}, [2]int{2, 3}, [2]int{1, 2}, [2]int{1, 2}, [2]int{9, 9}, [2]int{8, 8})
	was := slices.Clone(room)
	waits.Any(room[:4])
	cycle := waits.Cycle(room[:4], 3)
	if !slices.Equal(room, was) {
		t.Errorf("the edges are %v, were %v", room, was)
	}
	spare := cycle[:cap(cycle)]
	for i := range spare {
		spare[i] = 77
	}
	if got := waits.Cycle(room[:4], 3); !slices.Equal(got, []int{3, 1, 2}) || !slices.Equal(room, was) {
		t.Errorf("Cycle = %v", got)
	}
	ring := []int{1, 3, 2, 9}
	if waits.Victim(ring[:3]) != 3 || !slices.Equal(ring, []int{1, 3, 2, 9}) {
		t.Errorf("Victim: %v", ring)
	}
}

// TestP1LongWays goes ways that are far longer than calls may be nested in one another.
func TestP1LongWays(t *testing.T) {
	const n = 300000
	list := ring(n)
	got := waits.Cycle(list, 5)
	if len(got) != n || got[0] != 5 || got[n-1] != 4 || !waits.Any(list) {
		t.Errorf("a ring of %d: %d", n, len(got))
	}
	if got := waits.Cycle(list[:n-1], 0); len(got) != 0 || waits.Any(list[:n-1]) {
		t.Errorf("a way of %d: %d", n, len(got))
	}
}

// TestP1ManyWays has so many ways that no one could go them all.
func TestP1ManyWays(t *testing.T) {
	var list []api.Edge
	for i := range 200 {
		for _, from := range []int{2 * i, 2*i + 1} {
			list = append(list, api.Edge{From: from, To: 2*i + 2}, api.Edge{From: from, To: 2*i + 3})
		}
	}
	if got := waits.Cycle(list, 0); len(got) != 0 || waits.Any(list) {
		t.Errorf("Cycle = %v", got)
	}
}
