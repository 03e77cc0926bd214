package plan_test

import (
	"testing"

	"hasp/api"
	"hasp/bind"
	"hasp/parse"
)

// term reads and checks a statement; false: it isn't right.
func term(s string, tables []api.Table) (api.Term, bool) {
	st, code := parse.Parse(s)
	if code != api.OK {
		return api.Term{}, false
	}
	x, code := bind.Bind(st, tables)
	return x, code == api.OK
}

// TestP23_3Random makes plans of random statements over random tables, runs them, and holds what comes out against what the statements mean; P23.2 and P23.4 along with it.
func TestP23_3Random(t *testing.T) {
	g := newMaker(1)
	kinds, errors, opened, told := map[int]int{}, map[api.Errno]int{}, map[bool]int{}, 0
	for range 2500 {
		s, list := g.tables(pick(g, 2, 5, 7))
		for range 8 {
			what := g.statement(list)
			x, ok := term(what, list)
			if !ok {
				continue
			}
			p, got := played(t, s, 3+g.IntN(8), what, x)
			if t.Failed() {
				t.FailNow()
			}
			kinds[x.Kind]++
			errors[got.code]++
			for _, i := range p.Code {
				if i.Op == api.InOpen {
					opened[i.Index >= 0]++
				}
			}
			if isTold(x) {
				told++
			}
		}
	}
	if kinds[api.StSelect] < 4000 || kinds[api.StInsert] < 1000 || kinds[api.StUpdate] < 3000 || kinds[api.StDelete] < 2000 {
		t.Errorf("kinds: %v", kinds)
	}
	for _, code := range []api.Errno{api.ErrRange, api.ErrOverflow, api.ErrZero, api.ErrNull, api.ErrUnique, api.ErrFull} {
		if errors[code] < 80 {
			t.Errorf("errors: %v", errors)
		}
	}
	if opened[true] < 4000 || opened[false] < 4000 || told < 300 {
		t.Errorf("opened along an index or not %v, told %d", opened, told)
	}
}
