package plan_test

import (
	"slices"
	"testing"

	"hasp/api"
	"hasp/cover"
	"hasp/norm"
)

// holds looks at a plan's form: P23.2 and P23.4.
func holds(t *testing.T, what string, x api.Term, p api.Plan) {
	t.Helper()
	table := x.Tables[0].Name
	if x.Kind == api.StSelect {
		table = ""
	}
	if p.Table != table {
		t.Errorf("P23.2: %s changes %q", what, p.Table)
	}
	if code := cover.Check(p); code != api.OK {
		t.Errorf("P23.2: %s isn't covered: %+v", what, p)
	}
	for _, i := range p.Code {
		if !isRight(i, x) {
			t.Errorf("P23.2: %s has %+v", what, i)
		}
		if i.Op == api.InOpen && i.Index < 0 && isTold(x) {
			t.Errorf("P23.4: %s goes through rows one by one: %+v", what, p)
		}
	}
}

// isRight tells whether an instruction is one that P23.2 leaves.
func isRight(i api.Instr, x api.Term) bool {
	query := x.Kind == api.StSelect
	switch i.Op {
	case api.InLock:
		return slices.ContainsFunc(x.Tables, func(t api.Table) bool { return t.Name == i.Table }) && (!query || i.Mode == api.IS || i.Mode == api.S)
	case api.InOpen:
		return i.C >= 0 && i.C < len(x.Tables) && x.Tables[i.C].Name == i.Table && i.Index >= -1 && i.Index < len(x.Tables[i.C].Indexes)
	case api.InNext:
		return !query || (i.Mode == 0 || i.Mode == api.S) && (i.Part == 0 || i.Part == api.S)
	}
	return true
}

// isTold tells whether there is one source, of which all columns of a unique index are told.
func isTold(x api.Term) bool {
	if len(x.Tables) != 1 || x.Kind == api.StInsert {
		return false
	}
	told := map[int]bool{}
	for _, c := range conjuncts(x) {
		if r, ok := norm.Bound(c, 0); ok && r.Op == api.OpEq && len(norm.Sources(r.E)) == 0 {
			told[r.Col] = true
		}
	}
	return slices.ContainsFunc(x.Tables[0].Indexes, func(i api.Index) bool {
		return i.Unique && !slices.ContainsFunc(i.Cols, func(col int) bool { return !told[col] })
	})
}
