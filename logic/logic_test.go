package logic_test

import (
	"math"
	"slices"
	"testing"

	"hasp/api"
	"hasp/logic"
)

var (
	no      = api.Verdict{T: api.False}
	yes     = api.Verdict{T: api.True}
	unknown = api.Verdict{T: api.Unknown}
)

func failed(e api.Errno) api.Verdict { return api.Verdict{E: e} }

func codes() []api.Errno {
	return []api.Errno{api.OK, api.ErrLong, api.ErrRange, api.ErrType, api.ErrOverflow, api.ErrZero, api.ErrAborted, 1000, -1, math.MinInt, math.MaxInt}
}

// plain has every kind of verdict, in its one form.
func plain() []api.Verdict {
	list := []api.Verdict{no, yes, unknown}
	for _, e := range codes()[1:] {
		list = append(list, failed(e))
	}
	return list
}

// form is another writing of a verdict, beside its one form.
type form struct{ odd, plain api.Verdict }

func forms() []form {
	list := []form{}
	for _, v := range plain() {
		list = append(list, form{v, v})
	}
	for _, t := range []int{-1, 3, 9, math.MinInt, math.MaxInt} {
		list = append(list, form{api.Verdict{T: t}, unknown})
	}
	for _, t := range []int{api.False, api.True, api.Unknown, 7, -7} {
		list = append(list, form{api.Verdict{T: t, E: api.ErrZero}, failed(api.ErrZero)}, form{api.Verdict{T: t, E: api.ErrLong}, failed(api.ErrLong)})
	}
	return list
}

// lesser gives the error of two that counts, by a way of its own.
func lesser(a, b api.Errno) api.Errno {
	list := slices.DeleteFunc([]api.Errno{a, b}, func(e api.Errno) bool { return e == api.OK })
	if len(list) == 0 {
		return api.OK
	}
	return slices.Min(list)
}

// both says what And and Or answer: strong, if one is strong; else the error, else Unknown, else weak.
func both(a, b, strong, weak api.Verdict) api.Verdict {
	list := []api.Verdict{a, b}
	switch {
	case slices.Contains(list, strong):
		return strong
	case a.E != api.OK || b.E != api.OK:
		return failed(lesser(a.E, b.E))
	case slices.Contains(list, unknown):
		return unknown
	}
	return weak
}

func TestP4_1Worse(t *testing.T) {
	for _, c := range []struct{ a, b, want api.Errno }{
		{0, 0, 0}, {0, 32, 32}, {32, 0, 32}, {31, 32, 31}, {32, 31, 31}, {30, 30, 30}, {1, 252, 1}, {250, 2, 2}, {-3, 0, -3}, {0, -3, -3}, {-3, 2, -3}, {2, -3, -3},
	} {
		if got := logic.Worse(c.a, c.b); got != c.want {
			t.Errorf("Worse(%d, %d) = %d, not %d", c.a, c.b, got, c.want)
		}
	}
	for _, a := range codes() {
		for _, b := range codes() {
			if got := logic.Worse(a, b); got != lesser(a, b) {
				t.Errorf("Worse(%d, %d) = %d", a, b, got)
			}
		}
	}
}

func TestP4_2Not(t *testing.T) {
	for _, f := range forms() {
		want := f.plain
		switch f.plain {
		case no:
			want = yes
		case yes:
			want = no
		}
		if got := logic.Not(f.odd); got != want {
			t.Errorf("Not(%v) = %v, not %v", f.odd, got, want)
		}
	}
}

func TestP4_2AndOr(t *testing.T) {
	for _, a := range forms() {
		for _, b := range forms() {
			if got, want := logic.And(a.odd, b.odd), both(a.plain, b.plain, no, yes); got != want {
				t.Errorf("And(%v, %v) = %v, not %v", a.odd, b.odd, got, want)
			}
			if got, want := logic.Or(a.odd, b.odd), both(a.plain, b.plain, yes, no); got != want {
				t.Errorf("Or(%v, %v) = %v, not %v", a.odd, b.odd, got, want)
			}
		}
	}
}

func TestP4_2ByName(t *testing.T) {
	e := failed(api.ErrZero)
	for i, c := range []struct{ got, want api.Verdict }{
		{logic.Not(no), yes}, {logic.Not(yes), no}, {logic.Not(unknown), unknown}, {logic.Not(e), e},
		{logic.And(no, e), no}, {logic.And(e, no), no}, {logic.And(yes, e), e}, {logic.And(e, unknown), e}, {logic.And(unknown, no), no}, {logic.And(yes, unknown), unknown}, {logic.And(yes, yes), yes},
		{logic.Or(yes, e), yes}, {logic.Or(e, yes), yes}, {logic.Or(no, e), e}, {logic.Or(unknown, e), e}, {logic.Or(unknown, yes), yes}, {logic.Or(no, unknown), unknown}, {logic.Or(no, no), no},
		{logic.And(failed(32), failed(31)), failed(31)}, {logic.Or(failed(30), failed(31)), failed(30)},
	} {
		if c.got != c.want {
			t.Errorf("%d: %v, not %v", i, c.got, c.want)
		}
	}
}

// sieve says what Sieve answers, for verdicts in their one form.
func sieve(list []api.Verdict) (bool, api.Errno) {
	worst := api.OK
	for _, v := range list {
		if v == no || v == unknown {
			return false, api.OK
		}
		worst = lesser(worst, v.E)
	}
	return worst == api.OK, worst
}

func checkSieve(t *testing.T, odd, one []api.Verdict) {
	t.Helper()
	before := slices.Clone(odd)
	want, code := sieve(one)
	if ok, e := logic.Sieve(odd); ok != want || e != code {
		t.Errorf("Sieve(%v) = %v, %d, not %v, %d", odd, ok, e, want, code)
	}
	if !slices.Equal(before, odd) {
		t.Errorf("Sieve(%v) has changed its list: %v", before, odd)
	}
}

func TestP4_3ByName(t *testing.T) {
	e := failed(api.ErrZero)
	for i, c := range []struct {
		list []api.Verdict
		ok   bool
		e    api.Errno
	}{
		{nil, true, 0}, {[]api.Verdict{}, true, 0}, {[]api.Verdict{yes}, true, 0}, {[]api.Verdict{yes, yes, yes}, true, 0},
		{[]api.Verdict{no}, false, 0}, {[]api.Verdict{unknown}, false, 0}, {[]api.Verdict{e}, false, 32},
		{[]api.Verdict{yes, unknown, e}, false, 0}, {[]api.Verdict{e, unknown}, false, 0}, {[]api.Verdict{e, no}, false, 0}, {[]api.Verdict{no, e}, false, 0},
		{[]api.Verdict{e, failed(31)}, false, 31}, {[]api.Verdict{failed(31), yes, e}, false, 31}, {[]api.Verdict{e, {T: 5}}, false, 0}, {[]api.Verdict{{T: api.False, E: 32}, yes}, false, 32},
	} {
		if ok, e := logic.Sieve(c.list); ok != c.ok || e != c.e {
			t.Errorf("%d: %v, %d, not %v, %d", i, ok, e, c.ok, c.e)
		}
	}
}

func TestP4_3UpToThree(t *testing.T) {
	for _, a := range forms() {
		checkSieve(t, []api.Verdict{a.odd}, []api.Verdict{a.plain})
		for _, b := range forms() {
			checkSieve(t, []api.Verdict{a.odd, b.odd}, []api.Verdict{a.plain, b.plain})
			for _, c := range forms() {
				checkSieve(t, []api.Verdict{a.odd, b.odd, c.odd}, []api.Verdict{a.plain, b.plain, c.plain})
			}
		}
	}
}

func TestP4_3Long(t *testing.T) {
	for _, last := range forms() {
		list := append(slices.Repeat([]api.Verdict{yes}, 1000), last.odd)
		checkSieve(t, list, append(slices.Repeat([]api.Verdict{yes}, 1000), last.plain))
		slices.Reverse(list)
		checkSieve(t, list, []api.Verdict{last.plain})
	}
}

func TestP1P2AnyArguments(t *testing.T) {
	type call struct{ a, b api.Verdict }
	type answer struct {
		not, and, or api.Verdict
		worse, code  api.Errno
		through      bool
	}
	do := func(c call) answer {
		through, code := logic.Sieve([]api.Verdict{c.a, c.b})
		return answer{logic.Not(c.a), logic.And(c.a, c.b), logic.Or(c.a, c.b), logic.Worse(c.a.E, c.b.E), code, through}
	}
	calls, first := []call{}, []answer{}
	for _, a := range forms() {
		for _, b := range forms() {
			calls = append(calls, call{a.odd, b.odd})
			first = append(first, do(calls[len(calls)-1]))
		}
	}
	for i, c := range slices.Backward(calls) {
		if got := do(c); got != first[i] {
			t.Errorf("%v: %v, then %v", c, first[i], got)
		}
	}
}
