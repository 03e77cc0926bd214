package modes_test

import (
	"math"
	"slices"
	"testing"

	"hasp/api"
	"hasp/modes"
)

// right has the six modes.
func right() []int { return []int{api.IS, api.IX, api.S, api.SIX, api.U, api.X} }

// known has the six modes, and 0.
func known() []int { return append(right(), 0) }

// wrong has numbers that are neither 0 nor modes.
func wrong() []int {
	return []int{math.MinInt, math.MinInt + 1, -7, -6, -1, 7, 8, 14, 1 << 8, 1<<8 + 1, 1 << 32, 1<<32 + 1, math.MaxInt - 1, math.MaxInt}
}

// friends has for each mode those that go together with it.
func friends() map[int][]int {
	return map[int][]int{
		api.IS:  {api.IS, api.IX, api.S, api.SIX, api.U},
		api.IX:  {api.IS, api.IX},
		api.S:   {api.IS, api.S, api.U},
		api.SIX: {api.IS},
		api.U:   {api.IS, api.S},
		api.X:   {},
	}
}

// strong tells by the steps from each mode to the next stronger ones whether a is as strong as b.
func strong(a, b int) bool {
	steps := map[int][]int{0: {api.IS}, api.IS: {api.IX, api.S}, api.IX: {api.SIX}, api.S: {api.SIX, api.U}, api.SIX: {api.X}, api.U: {api.X}}
	return a == b || slices.ContainsFunc(steps[b], func(up int) bool { return strong(a, up) })
}

func TestP9_1Right(t *testing.T) {
	for _, m := range right() {
		if !modes.Right(m) {
			t.Errorf("Right(%d) = false", m)
		}
	}
	for _, m := range append(wrong(), 0) {
		if modes.Right(m) {
			t.Errorf("Right(%d) = true", m)
		}
	}
}

func TestP9_1Together(t *testing.T) {
	for _, a := range right() {
		for _, b := range right() {
			if got, want := modes.Together(a, b), slices.Contains(friends()[a], b); got != want {
				t.Errorf("Together(%d, %d) = %v", a, b, got)
			}
		}
	}
	for _, m := range known() {
		if !modes.Together(m, 0) || !modes.Together(0, m) {
			t.Errorf("%d and 0 don't go together", m)
		}
	}
	for _, a := range wrong() {
		for _, b := range slices.Concat(known(), wrong()) {
			if modes.Together(a, b) || modes.Together(b, a) {
				t.Errorf("%d and %d go together", a, b)
			}
		}
	}
}

func TestP9_2Covers(t *testing.T) {
	for _, a := range known() {
		for _, b := range known() {
			if got := modes.Covers(a, b); got != strong(a, b) {
				t.Errorf("Covers(%d, %d) = %v", a, b, got)
			}
		}
	}
	for _, a := range wrong() {
		for _, b := range slices.Concat(known(), wrong()) {
			if modes.Covers(a, b) || modes.Covers(b, a) {
				t.Errorf("Covers of %d and %d", a, b)
			}
		}
	}
}

func TestP9_2Join(t *testing.T) {
	for _, c := range [][3]int{
		{api.S, api.IX, api.SIX}, {api.IX, api.U, api.X}, {api.SIX, api.U, api.X}, {api.S, api.U, api.U}, {api.IS, api.S, api.S}, {api.IS, api.IX, api.IX},
		{api.IS, api.U, api.U}, {api.IX, api.SIX, api.SIX}, {api.S, api.SIX, api.SIX}, {api.IX, api.X, api.X}, {0, 0, 0}, {0, api.IS, api.IS}, {0, api.X, api.X},
	} {
		if a, b := modes.Join(c[0], c[1]), modes.Join(c[1], c[0]); a != c[2] || b != c[2] {
			t.Errorf("Join of %d and %d = %d, %d, not %d", c[0], c[1], a, b, c[2])
		}
	}
	for _, a := range wrong() {
		for _, b := range slices.Concat(known(), wrong()) {
			if x, y := modes.Join(a, b), modes.Join(b, a); x != 0 || y != 0 {
				t.Errorf("Join of %d and %d = %d, %d", a, b, x, y)
			}
		}
	}
}

// TestP9_2Weakest holds Join against what makes it the weakest: it is as strong as both, and whatever is that is as strong as it.
func TestP9_2Weakest(t *testing.T) {
	for _, a := range known() {
		for _, b := range known() {
			join := modes.Join(a, b)
			if !strong(join, a) || !strong(join, b) {
				t.Errorf("Join(%d, %d) = %d", a, b, join)
			}
			for _, m := range known() {
				if strong(m, a) && strong(m, b) && !strong(m, join) {
					t.Errorf("Join(%d, %d) = %d, but %d is as strong as both", a, b, join, m)
				}
			}
		}
	}
}
