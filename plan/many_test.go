package plan_test

import (
	"slices"
	"testing"

	"hasp/api"
	"hasp/bind"
	"hasp/plan"
)

func named(qual, name string) api.Expr { return api.Expr{Op: api.OpColumn, Qual: qual, Text: name} }

func whole(n int64) api.Expr { return api.Expr{Op: api.OpConst, Kind: api.Int, Num: n} }

func of(op int, a, b api.Expr) api.Expr { return api.Expr{Op: op, Args: []api.Expr{a, b}} }

// all puts conditions together by AND, so that they lie no deeper than they have to.
func all(list []api.Expr) api.Expr {
	if len(list) == 1 {
		return list[0]
	}
	return of(api.OpAnd, all(list[:len(list)/2]), all(list[len(list)/2:]))
}

// parts makes many conditions over the column a of a source, true ones behind others.
func parts(n int, qual string, others ...api.Expr) []api.Expr {
	list := slices.Clone(others)
	for i := range n - len(others) {
		list = append(list, of(api.OpNe, named(qual, "a"), whole(int64(1000+i))))
	}
	return list
}

// TestP23_2Many has more conditions than a plan has instructions. A part that is unknown keeps a row out, though others meet errors.
func TestP23_2Many(t *testing.T) {
	overZero := of(api.OpLt, of(api.OpDiv, whole(1), named("t", "a")), whole(5))
	beyond := of(api.OpNe, of(api.OpAdd, named("t", "a"), whole(9223372036854775807)), whole(7))
	known := of(api.OpNe, named("t", "b"), whole(0))
	for _, n := range []int{900, 1000, 1001, 2000, 4095, 4096, 5000, 20000} {
		w := stored(t, api.Table{Name: "t", Cols: []api.Column{{Name: "a", Type: api.Int}, {Name: "b", Type: api.Int}}, Indexes: []api.Index{{Name: "i", Cols: []int{1}}}})
		play := func(kind int, others ...api.Expr) outcome {
			x, code := bind.Bind(api.Stmt{Kind: kind, From: []api.Source{{Table: "t"}}, Where: all(parts(n, "t", others...))}, w.list)
			if kind == api.StDelete {
				x, code = bind.Bind(api.Stmt{Kind: kind, Table: "t", Where: all(parts(n, "t", others...))}, w.list)
			}
			if code != api.OK {
				t.Fatalf("%d", code)
			}
			_, got := played(t, w.store, w.most, "many conditions", x)
			return got
		}
		w.counts("INSERT INTO t VALUES (0, NULL), (0, 0), (1, NULL), (-1, 1)", 4)
		if got := play(api.StSelect, overZero, known); got.code != api.OK || len(got.rows) != 1 {
			t.Errorf("%d conditions: %d, %v", n, got.code, got.rows)
		}
		if got := play(api.StSelect, known, overZero); got.code != api.OK || len(got.rows) != 1 {
			t.Errorf("%d conditions: %d, %v", n, got.code, got.rows)
		}
		if got := play(api.StSelect, overZero); got.code != api.ErrZero {
			t.Errorf("%d conditions: %d, %v", n, got.code, got.rows)
		}
		if got := play(api.StSelect, overZero, beyond); got.code != api.ErrOverflow {
			t.Errorf("%d conditions: %d, %v", n, got.code, got.rows)
		}
		if got := play(api.StDelete, overZero, known, beyond); got.code != api.OK || got.count != 1 {
			t.Errorf("%d conditions: %d, %d", n, got.code, got.count)
		}
	}
}

// TestP23_2ManyOfJoin has many conditions of each source.
func TestP23_2ManyOfJoin(t *testing.T) {
	w := sample(t)
	w.counts("INSERT INTO u VALUES (0, 1), (2, NULL), (3, 1)", 3)
	for _, n := range []int{900, 1000, 1001, 1024, 1500, 4000} {
		st := api.Stmt{Kind: api.StSelect, Items: []api.Item{{E: named("x3", "a")}}}
		for _, alias := range []string{"x0", "x1", "x2", "x3"} {
			divided := of(api.OpLt, of(api.OpDiv, whole(1), named(alias, "a")), whole(5))
			known := of(api.OpNe, named(alias, "b"), whole(0))
			on := all(parts(n, alias, divided, known, of(api.OpNe, named(alias, "a"), whole(0))))
			if alias == "x0" {
				st.Where = on
				on = api.Expr{}
			}
			st.From = append(st.From, api.Source{Table: "u", Alias: alias, On: on})
		}
		x, code := bind.Bind(st, w.list)
		if code != api.OK {
			t.Fatal(code)
		}
		if _, got := played(t, w.store, w.most, "a join with many conditions", x); got.code != api.OK || len(got.rows) != 1 {
			t.Errorf("%d, %v", got.code, got.rows)
		}
	}
}

// TestP23_2Tests holds that conditions are tested one by one, where there is room.
func TestP23_2Tests(t *testing.T) {
	w := sample(t)
	x, code := bind.Bind(api.Stmt{Kind: api.StDelete, Table: "v", Where: all(parts(900, "v"))}, w.list)
	p, e := plan.Make(x)
	tests := 0
	for _, i := range p.Code {
		if i.Op == api.InTest {
			tests++
		}
	}
	if code != api.OK || e != api.OK || tests != 900 {
		t.Errorf("%d, %d, %d tests", code, e, tests)
	}
}
