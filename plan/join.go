package plan

import (
	"slices"

	"hasp/api"
	"hasp/norm"
)

// bound is what bounds a column of a source, with the sources that its operand goes over.
type bound struct {
	api.Range
	over []int
}

// join is what the order of the sources hangs on: their tables, and of each what bounds its columns.
type join struct {
	tables []api.Table
	bounds [][]bound
}

// arranged gives the sources in the order in which they are gone through, and each part of the conditions at the first of them where it can be tested.
func arranged(tables []api.Table, conds []api.Code) []stop {
	var parts []api.Code
	for _, c := range conds {
		parts = append(parts, norm.Conjuncts(c)...)
	}
	stops, _ := newJoin(tables, parts).best(nil)
	for _, c := range parts {
		at := firstOver(stops, norm.Sources(c))
		stops[at].tests = append(stops[at].tests, c)
	}
	for at := range stops {
		stops[at].tests = fewer(stops[at].tests)
	}
	return stops
}

func newJoin(tables []api.Table, parts []api.Code) join {
	j := join{tables, make([][]bound, len(tables))}
	for source := range tables {
		for _, c := range parts {
			if r, ok := norm.Bound(c, source); ok {
				j.bounds[source] = append(j.bounds[source], bound{r, norm.Sources(r.E)})
			}
		}
	}
	return j
}

// best gives the sources that aren't placed yet in the order in which their ways are worth most together, and what they are worth; of several such orders the one nearest to FROM's.
func (j join) best(placed []int) ([]stop, int) {
	var order []stop
	most := -1
	for source := range j.tables {
		if slices.Contains(placed, source) {
			continue
		}
		w := j.way(source, placed)
		rest, worth := j.best(slices.Concat(placed, []int{source}))
		if w.worth+worth > most {
			most = w.worth + worth
			order = append([]stop{{way: w, source: source, table: j.tables[source].Name}}, rest...)
		}
	}
	return order, max(most, 0)
}

// way gives the way to a source's rows that is worth most, where the placed sources are at their rows.
func (j join) way(source int, placed []int) way {
	var known []bound
	for _, b := range j.bounds[source] {
		if isWithin(b.over, placed) {
			known = append(known, b)
		}
	}
	best := way{index: -1}
	for at, x := range j.tables[source].Indexes {
		if w := along(at, x, known); w.worth > best.worth {
			best = w
		}
	}
	return best
}

// isWithin tells whether all these sources are placed.
func isWithin(over, placed []int) bool {
	return !slices.ContainsFunc(over, func(source int) bool { return !slices.Contains(placed, source) })
}

// firstOver gives the first stop where all these sources are at their rows.
func firstOver(stops []stop, over []int) int {
	for at := len(stops) - 1; at > 0; at-- {
		if slices.Contains(over, stops[at].source) {
			return at
		}
	}
	return 0
}
