package plan

import (
	"slices"

	"hasp/api"
)

// What a way is worth: rows are found the sooner the more columns are told, and at once where there is one at most.
const (
	worthSide = 1
	worthSame = 4
	worthOnly = 20
)

// way is how a source's rows are found: between two bounds of an index, or (index -1) one by one.
type way struct {
	index        int
	lo, hi       []api.Code
	loOut, hiOut bool
	worth        int
}

// along gives the way along an index, as far as the bounds lead.
func along(place int, x api.Index, bounds []bound) way {
	w := way{index: place}
	for _, col := range x.Cols {
		b, ok := on(bounds, col, api.OpEq)
		if !ok {
			w.narrow(bounds, col)
			return w
		}
		w.lo, w.hi = append(w.lo, b.E), append(w.hi, b.E)
		w.worth += worthSame
	}
	if x.Unique {
		w.worth += worthOnly
	}
	return w
}

// narrow bounds a column on both sides, as far as there are bounds.
func (w *way) narrow(bounds []bound, col int) {
	if b, ok := on(bounds, col, api.OpGt, api.OpGe); ok {
		w.lo, w.loOut = append(w.lo, b.E), b.Op == api.OpGt
		w.worth += worthSide
	}
	if b, ok := on(bounds, col, api.OpLt, api.OpLe); ok {
		w.hi, w.hiOut = append(w.hi, b.E), b.Op == api.OpLt
		w.worth += worthSide
	}
}

// on gives the first bound of a column by one of these operators.
func on(bounds []bound, col int, ops ...int) (bound, bool) {
	at := slices.IndexFunc(bounds, func(b bound) bool { return b.Col == col && slices.Contains(ops, b.Op) })
	if at < 0 {
		return bound{}, false
	}
	return bounds[at], true
}
