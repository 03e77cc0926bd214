// Package value is layer 2: see shared/doc/02-value.md.
package value

import (
	"cmp"
	"strings"

	"hasp/api"
	"hasp/real"
)

// Check tells what is wrong with a value.
func Check(v api.Value) api.Errno {
	switch {
	case v.Kind < api.Null || v.Kind > api.Text:
		return api.ErrKind
	case !rightNum(v):
		return api.ErrArg
	case v.Kind != api.Text && v.Text != "":
		return api.ErrArg
	case len(v.Text) > api.MaxText:
		return api.ErrLong
	}
	return api.OK
}

// rightNum tells whether Num is one that the value's kind may have.
func rightNum(v api.Value) bool {
	switch v.Kind {
	case api.Bool:
		return v.Num == 0 || v.Num == 1
	case api.Int:
		return true
	case api.Real:
		return v.Num == real.Canon(v.Num)
	}
	return v.Num == 0
}

// Compare tells which of two values comes first: -1, 0, 1.
func Compare(a, b api.Value) int {
	if a.Kind != b.Kind {
		return cmp.Compare(a.Kind, b.Kind)
	}
	switch a.Kind {
	case api.Null:
		return 0
	case api.Real:
		return real.Order(a.Num, b.Num)
	case api.Text:
		return strings.Compare(a.Text, b.Text)
	}
	return cmp.Compare(a.Num, b.Num)
}

// Rows tells which of two lists of values comes first: -1, 0, 1.
func Rows(a, b []api.Value) int {
	for i := range min(len(a), len(b)) {
		if place := Compare(a[i], b[i]); place != 0 {
			return place
		}
	}
	return cmp.Compare(len(a), len(b))
}

// Truth gives the truth that a value is.
func Truth(v api.Value) api.Verdict {
	switch v.Kind {
	case api.Null:
		return api.Verdict{T: api.Unknown}
	case api.Bool:
		return api.Verdict{T: truth(v.Num == 1)}
	}
	return api.Verdict{E: api.ErrType}
}

// Of gives the value that a truth is.
func Of(t int) api.Value {
	switch t {
	case api.False:
		return api.Value{Kind: api.Bool, Num: 0}
	case api.True:
		return api.Value{Kind: api.Bool, Num: 1}
	}
	return api.Value{Kind: api.Null}
}

// Is tells whether a comparison holds.
func Is(op int, a, b api.Value) int {
	if a.Kind == api.Null || b.Kind == api.Null {
		return api.Unknown
	}
	place := Compare(a, b)
	switch op {
	case api.OpEq:
		return truth(place == 0)
	case api.OpNe:
		return truth(place != 0)
	case api.OpLt:
		return truth(place < 0)
	case api.OpLe:
		return truth(place <= 0)
	case api.OpGt:
		return truth(place > 0)
	case api.OpGe:
		return truth(place >= 0)
	}
	return api.Unknown
}

// truth gives one of the two truths that are known.
func truth(holds bool) int {
	if holds {
		return api.True
	}
	return api.False
}
