package vm_test

import (
	"fmt"
	"slices"
	"strings"
	"testing"

	"hasp/api"
	"hasp/bind"
	"hasp/catalog"
	"hasp/keys"
	"hasp/locks"
	"hasp/parse"
	"hasp/plan"
	"hasp/undo"
	"hasp/vm"
)

// world is a machine with all on which it works.
type world struct {
	*testing.T
	s *catalog.Store
	x *undo.Txns
	l *locks.Table
	m *vm.Machine
}

// empty gives a world without tables.
func empty(t *testing.T, most int) *world {
	w := &world{T: t, s: catalog.New(), l: locks.New()}
	w.x = undo.New(w.s)
	w.m = vm.New(w.s, w.x, w.l, most)
	return w
}

func whole(n int64) api.Value { return api.Value{Kind: api.Int, Num: n} }

// ints gives a row of whole numbers, with Null for every -9.
func ints(list ...int64) []api.Value {
	row := make([]api.Value, len(list))
	for i, n := range list {
		if n != -9 {
			row[i] = whole(n)
		}
	}
	return row
}

// desc describes a table with the columns a and b.
func desc(name string, indexes ...api.Index) api.Table {
	return api.Table{Name: name, Cols: []api.Column{{Name: "a", Type: api.Int}, {Name: "b", Type: api.Int}}, Indexes: indexes}
}

func index(name string, cols ...int) api.Index { return api.Index{Name: name, Cols: cols} }

func unique(name string, cols ...int) api.Index {
	return api.Index{Name: name, Cols: cols, Unique: true}
}

// sample gives t (a, b) with a unique index i on a and an index j on b, a and u (a, b) without one, and three rows in each.
func sample(t *testing.T) *world {
	w := empty(t, 10)
	txn := w.x.Begin()
	w.is("Make", w.x.Make(txn, desc("t", unique("i", 0), index("j", 1))))
	w.is("Make", w.x.Make(txn, desc("u")))
	w.commit(txn)
	w.put("t", ints(1, 10), ints(2, 20), ints(3, 30))
	w.put("u", ints(1, 0), ints(2, -9), ints(3, 3))
	return w
}

func (w *world) is(what string, code api.Errno) {
	w.Helper()
	if code != api.OK {
		w.Fatalf("%s: %d", what, code)
	}
}

func (w *world) commit(txn int) {
	w.Helper()
	_, code := w.x.Commit(txn)
	w.is("Commit", code)
	w.l.Drop(txn)
}

// change changes a table by a transaction of its own.
func (w *world) change(table string, list ...api.Change) {
	w.Helper()
	txn := w.x.Begin()
	w.is("Apply", w.x.Apply(txn, table, list))
	w.commit(txn)
}

func (w *world) put(table string, rows ...[]api.Value) {
	w.Helper()
	for _, row := range rows {
		w.change(table, api.Change{Row: row})
	}
}

// plan gives the plan of a statement.
func (w *world) plan(s string) api.Plan {
	w.Helper()
	st, code := parse.Parse(s)
	w.is(s, code)
	x, code := bind.Bind(st, w.s.Tables())
	w.is(s, code)
	p, code := plan.Make(x)
	w.is(s, code)
	return p
}

// start starts a plan without a table that it changes, in a new transaction.
func (w *world) start(code ...api.Instr) *vm.Run {
	return w.m.Start(w.x.Begin(), api.Plan{Code: code})
}

// startOn starts a plan that changes a table.
func (w *world) startOn(table string, code ...api.Instr) *vm.Run {
	return w.m.Start(w.x.Begin(), api.Plan{Table: table, Code: code})
}

// states does steps to the first that isn't Running, and gives what they answered: R, B, D.
func states(r *vm.Run) string {
	s := ""
	for range 5000 {
		n := r.Step()
		s += [...]string{"?", "R", "B", "D"}[n]
		if n != api.Running {
			return s
		}
	}
	return "no end"
}

// last does steps, and gives the first answer that isn't Running.
func last(r *vm.Run) string {
	s := states(r)
	return s[len(s)-1:]
}

// goes holds what steps answer.
func (w *world) goes(what string, r *vm.Run, want string) {
	w.Helper()
	if got := states(r); got != want {
		w.Errorf("%s: %s, not %s", what, got, want)
	}
}

// told holds what something is as text.
func (w *world) told(what string, got any, want string) {
	w.Helper()
	if s := fmt.Sprint(got); s != want {
		w.Errorf("%s: %s, not %s", what, s, want)
	}
}

// answers runs to the end, and holds the rows of the answer.
func (w *world) answers(what string, r *vm.Run, want string) {
	w.Helper()
	w.told(what, last(r), "D")
	w.told(what, rowsText(r.Result()), want)
}

// rowsText gives an answer of whole numbers: rows with a blank between, values with a comma between; the error, if there is one.
func rowsText(r api.Result) string {
	if r.Code != api.OK {
		return fmt.Sprint("error ", int(r.Code), len(r.Rows), r.Count)
	}
	var list []string
	for _, row := range r.Rows {
		list = append(list, valuesText(row))
	}
	return strings.Join(list, " ")
}

func valuesText(row []api.Value) string {
	var list []string
	for _, v := range row {
		switch v.Kind {
		case api.Null:
			list = append(list, "-")
		case api.Text:
			list = append(list, v.Text)
		default:
			list = append(list, fmt.Sprint(v.Num))
		}
	}
	return strings.Join(list, ",")
}

// held gives all locks of a transaction: k/t/i/2#5 is the entry of the value 2 and the row 5.
func (w *world) held(txn int) string {
	var list []string
	for _, l := range w.l.Locks() {
		if l.Txn == txn {
			list = append(list, lockText(l.Res)+" "+[...]string{"", "IS", "IX", "S", "SIX", "U", "X"}[l.Mode])
		}
	}
	slices.Sort(list)
	return strings.Join(list, ", ")
}

func lockText(res string) string {
	parts := strings.SplitN(res, "/", 4)
	if parts[0] != "k" {
		return res
	}
	values, _ := keys.Decode([]byte(parts[3]))
	n := len(values) - 1
	return strings.Join(parts[:3], "/") + "/" + valuesText(values[:n]) + "#" + valuesText(values[n:])
}

// holds tells whether a transaction has just these locks.
func (w *world) holds(what string, txn int, want ...string) {
	w.Helper()
	slices.Sort(want)
	if got := w.held(txn); got != strings.Join(want, ", ") {
		w.Errorf("%s: locks %s, not %s", what, got, strings.Join(want, ", "))
	}
}

// table gives a table's rows, each with its number.
func (w *world) table(name string) string {
	t, _ := w.s.Table(name)
	var list []string
	for id, ok := t.Behind(0); ok; id, ok = t.Behind(id) {
		row, _ := t.Row(id)
		list = append(list, fmt.Sprint(id, ":", valuesText(row)))
	}
	return strings.Join(list, " ")
}

// The codes of which plans are written.

func num(n int64) api.Code { return api.Code{Op: api.OpConst, Type: api.Int, Val: whole(n)} }

func null() api.Code { return api.Code{Op: api.OpConst} }

func col(tab, c int) api.Code { return api.Code{Op: api.OpColumn, Type: api.Int, Tab: tab, Col: c} }

func of(op int, args ...api.Code) api.Code { return api.Code{Op: op, Args: args} }

// zero meets ErrZero, beyond ErrOverflow, which counts more.
func zero() api.Code { return of(api.OpDiv, num(1), num(0)) }

func beyond() api.Code { return of(api.OpAdd, num(1), num(9223372036854775807)) }

func codes(list ...api.Code) []api.Code { return list }

// The instructions.

func lock(table string, mode int) api.Instr {
	return api.Instr{Op: api.InLock, Table: table, Mode: mode}
}

// rowsOf opens a cursor by a table's rows.
func rowsOf(c int, table string) api.Instr {
	return api.Instr{Op: api.InOpen, C: c, Table: table, Index: -1}
}

// along opens a cursor along an index.
func along(c int, table string, index int, lo, hi []api.Code) api.Instr {
	return api.Instr{Op: api.InOpen, C: c, Table: table, Index: index, Lo: lo, Hi: hi}
}

func next(c, to int) api.Instr { return api.Instr{Op: api.InNext, C: c, To: to} }

// nextIn asks for the entry and the row.
func nextIn(c, to, mode, part int) api.Instr {
	return api.Instr{Op: api.InNext, C: c, To: to, Mode: mode, Part: part}
}

func test(c, to int, e ...api.Code) api.Instr {
	return api.Instr{Op: api.InTest, C: c, To: to, E: e}
}

func emit(e ...api.Code) api.Instr { return api.Instr{Op: api.InEmit, E: e, N: len(e)} }

func picks(e ...api.Code) api.Instr { return api.Instr{Op: api.InPick, E: e} }

func makes(e ...api.Code) api.Instr { return api.Instr{Op: api.InMake, E: e} }

func jump(to int) api.Instr { return api.Instr{Op: api.InJump, To: to} }

func guard() api.Instr { return api.Instr{Op: api.InGuard} }

func apply() api.Instr { return api.Instr{Op: api.InApply} }

func sorts(desc ...bool) api.Instr { return api.Instr{Op: api.InSort, Desc: desc} }

func halt() api.Instr { return api.Instr{Op: api.InHalt} }
