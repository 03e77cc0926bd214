package waits

import (
	"cmp"
	"slices"

	"hasp/api"
)

// graph has by transaction those that it waits for, each once, by rising numbers.
type graph struct{ next map[int][]int }

// graphOf gives the graph of edges.
func graphOf(edges []api.Edge) graph {
	ordered := slices.Clone(edges)
	slices.SortFunc(ordered, func(a, b api.Edge) int {
		return cmp.Or(cmp.Compare(a.From, b.From), cmp.Compare(a.To, b.To))
	})
	next := map[int][]int{}
	for _, e := range slices.Compact(ordered) {
		next[e.From] = append(next[e.From], e.To)
	}
	return graph{next}
}

// peel takes out, again and again, a transaction for which none waits: what stays lies on cycles or behind them.
func (g graph) peel() {
	ahead := map[int]int{} // by transaction: how many wait for it
	for _, list := range g.next {
		for _, to := range list {
			ahead[to]++
		}
	}
	var loose []int
	for from := range g.next {
		if ahead[from] == 0 {
			loose = append(loose, from)
		}
	}
	for len(loose) > 0 {
		at := loose[len(loose)-1]
		loose = loose[:len(loose)-1]
		for _, to := range g.next[at] {
			ahead[to]--
			if ahead[to] == 0 {
				loose = append(loose, to)
			}
		}
		delete(g.next, at)
	}
}

// search goes through a graph, first into the depth, and uses its edges up. It keeps its way in a list, for a way may be longer than calls can be nested.
type search struct {
	graph
	met map[int]struct{}
	way []int
}

// cycle gives the first way found from a transaction to one that waits for it.
func (s *search) cycle(from int) []int {
	s.enter(from)
	for len(s.way) > 0 && !s.waitsFor(from) {
		s.step()
	}
	return s.way
}

// waitsFor tells whether the transaction at the way's end waits for another one.
func (s *search) waitsFor(to int) bool {
	_, ok := slices.BinarySearch(s.next[s.way[len(s.way)-1]], to)
	return ok
}

// step goes along the next edge to a transaction that wasn't met yet, or back, if there is none.
func (s *search) step() {
	at := s.way[len(s.way)-1]
	for i, to := range s.next[at] {
		if _, ok := s.met[to]; !ok {
			s.next[at] = s.next[at][i+1:]
			s.enter(to)
			return
		}
	}
	delete(s.next, at)
	s.way = s.way[:len(s.way)-1]
}

// enter goes to a transaction.
func (s *search) enter(txn int) {
	s.met[txn] = struct{}{}
	s.way = append(s.way, txn)
}
