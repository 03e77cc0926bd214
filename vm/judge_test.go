package vm_test

import (
	"bytes"
	"slices"

	"hasp/api"
	"hasp/expr"
	"hasp/keys"
	"hasp/logic"
	"hasp/modes"
	"hasp/rows"
	"hasp/schema"
	"hasp/table"
	"hasp/value"
	"hasp/vm"
)

// judge runs a plan by the chapter's words, over a world of its own: an index is a sorted list, made anew whenever it is asked.
type judge struct {
	w       *world
	most    int
	txn     int
	plan    api.Plan
	place   int
	cursors [4]mark
	code    api.Errno
	rows    [][]api.Value
	sorts   [][]api.Value
	changes []api.Change
	guarded map[int]bool // by the changes' places
	count   int
	done    bool
	wrong   bool
}

// mark is where a judge's cursor is.
type mark struct {
	open     bool
	table    string
	index    int
	none     bool // a bound is Null
	lo, hi   []byte
	bounded  bool // there is an end
	at       bool
	id       int
	row      []api.Value
	stood    []byte // the key at which it stood last; nil: it never did
	tupleErr api.Errno
}

// right tells whether nothing is wrong with the plan at an instruction, but for what is looked at behind the codes' errors.
func (j *judge) right(x api.Instr) bool {
	mode := func(m int) bool { return m == 0 || modes.Right(m) }
	switch x.Op {
	case api.InLock:
		return modes.Right(x.Mode)
	case api.InOpen:
		t, ok := j.w.s.Table(x.Table)
		return x.C >= 0 && x.C <= 3 && ok && x.Index >= -1 && x.Index < len(t.Desc().Indexes)
	case api.InNext:
		if x.C < 0 || x.C > 3 || !j.cursors[x.C].open || !mode(x.Mode) || !mode(x.Part) {
			return false
		}
		t, ok := j.w.s.Table(j.cursors[x.C].table)
		return ok && j.cursors[x.C].index < len(t.Desc().Indexes)
	case api.InTest:
		return x.C >= 0 && x.C <= 3 && len(x.E) == 1
	case api.InEmit:
		return x.N >= 0 && x.N <= len(x.E)
	case api.InPick:
		return j.target() != nil && j.cursors[0].open && j.cursors[0].table == j.plan.Table && j.cursors[0].at
	case api.InMake, api.InGuard, api.InApply:
		return j.target() != nil
	}
	return x.Op == api.InJump || x.Op == api.InSort || x.Op == api.InHalt
}

func (j *judge) target() *table.Table {
	if schema.IsSystem(j.plan.Table) {
		return nil
	}
	t, _ := j.w.s.Table(j.plan.Table)
	return t
}

func (j *judge) over() (list [][]api.Value) {
	for _, c := range j.cursors {
		list = append(list, c.row)
	}
	return list
}

func (j *judge) tuple() api.Errno {
	worst := api.OK
	for _, c := range j.cursors {
		worst = logic.Worse(worst, c.tupleErr)
	}
	return worst
}

func (j *judge) note(code api.Errno) { j.code = logic.Worse(j.code, code) }

// get asks for locks one behind the other; false: one isn't granted.
func (j *judge) get(list ...api.Lock) bool {
	for _, l := range list {
		if l.Mode != 0 && j.w.l.Ask(j.txn, l.Res, l.Mode) != api.Granted {
			return false
		}
	}
	return true
}

func (j *judge) step() int {
	if j.done {
		return api.Done
	}
	fails := j.place < 0 || j.place >= len(j.plan.Code)
	var x api.Instr
	if !fails {
		x = j.plan.Code[j.place]
		codes := x.Op == api.InEmit || x.Op == api.InPick || x.Op == api.InMake
		if codes && j.tuple() == api.OK {
			if _, code := expr.Row(x.E, j.over()); code != api.OK {
				j.note(code)
				j.place++
				return api.Running
			}
		}
		fails = !j.right(x)
	}
	if fails {
		j.done, j.wrong = true, true
		return api.Done
	}
	to, waits := j.does(x)
	switch {
	case waits:
		return api.Blocked
	case x.Op == api.InHalt:
		j.done = true
		return api.Done
	}
	j.place = to
	return api.Running
}

// does does an instruction with which nothing is wrong, and gives the place behind it.
func (j *judge) does(x api.Instr) (to int, waits bool) {
	to = j.place + 1
	switch x.Op {
	case api.InLock:
		waits = !j.get(api.Lock{Res: "t/" + x.Table, Mode: x.Mode})
	case api.InOpen:
		j.opens(x)
	case api.InNext:
		return j.goes(x, &j.cursors[x.C], to)
	case api.InTest:
		v := expr.Test(x.E[0], j.over())
		if v.E != api.OK {
			j.cursors[x.C].tupleErr = logic.Worse(j.cursors[x.C].tupleErr, v.E)
		} else if v.T != api.True {
			to = x.To
		}
	case api.InEmit, api.InPick, api.InMake:
		if code := j.tuple(); code != api.OK {
			j.note(code)
			break
		}
		row, _ := expr.Row(x.E, j.over())
		j.takes(x, row)
	case api.InJump:
		to = x.To
	case api.InGuard:
		return j.guards(to)
	case api.InApply:
		waits = j.applies()
	case api.InSort:
		j.sort(x.Desc)
	}
	return to, waits
}

// takes adds a row to the answer, or a change.
func (j *judge) takes(x api.Instr, row []api.Value) {
	if x.Op == api.InEmit {
		j.rows, j.sorts = append(j.rows, row[:x.N]), append(j.sorts, row[x.N:])
		return
	}
	c := api.Change{Row: row}
	if x.Op == api.InPick {
		c.Id = j.cursors[0].id
		c.Del = len(x.E) == 0
	}
	if c.Del {
		c.Row = nil
	} else if code := rows.Fit(j.target().Desc().Cols, row); code != api.OK {
		j.note(code)
		return
	}
	j.changes = append(j.changes, c)
}

// values gives the values to the first that has an error, and whether that is out.
func (j *judge) values(list []api.Code, out bool) ([]api.Value, bool) {
	var got []api.Value
	for _, c := range list {
		v, code := expr.Eval(c, j.over())
		if code != api.OK {
			return got, false
		}
		got = append(got, v)
	}
	return got, out
}

func (j *judge) opens(x api.Instr) {
	c := mark{open: true, table: x.Table, index: x.Index}
	if x.Index >= 0 {
		lo, loOut := j.values(x.Lo, x.LoOut)
		hi, hiOut := j.values(x.Hi, x.HiOut)
		c.none = slices.Contains(lo, api.Value{}) || slices.Contains(hi, api.Value{})
		c.lo, c.hi = keys.Encode(lo), keys.Encode(hi)
		if len(lo) > 0 && loOut {
			c.lo, _ = keys.Behind(c.lo)
		}
		if c.bounded = len(hi) > 0; c.bounded && !hiOut {
			c.hi, _ = keys.Behind(c.hi)
		}
	}
	j.cursors[x.C] = c
}

// goes goes to the next row.
func (j *judge) goes(x api.Instr, c *mark, to int) (int, bool) {
	t, _ := j.w.s.Table(c.table)
	id, ok := 0, false
	var key []byte
	if c.index == -1 {
		id, ok = t.Behind(c.id)
	} else if !c.none {
		var e api.Entry
		e, ok = first(t, c.index, func(key []byte) bool {
			return bytes.Compare(key, c.lo) >= 0 && (c.stood == nil || bytes.Compare(key, c.stood) > 0)
		})
		res := vm.ResEnd(c.table, t.Desc().Indexes[c.index].Name)
		if ok {
			res = vm.ResKey(c.table, t.Desc().Indexes[c.index].Name, e.Key)
		}
		if !j.get(api.Lock{Res: res, Mode: x.Mode}) {
			return 0, true
		}
		ok = ok && (!c.bounded || bytes.Compare(e.Key, c.hi) < 0)
		id, key = e.Id, e.Key
	}
	if !ok {
		c.at, c.row = false, nil
		return x.To, false
	}
	if !j.get(api.Lock{Res: vm.ResRow(c.table, id), Mode: x.Part}) {
		return 0, true
	}
	c.at, c.id, c.stood, c.tupleErr = true, id, key, api.OK
	c.row, _ = t.Row(id)
	return to, false
}

// first gives the first entry of an index whose key is such.
func first(t *table.Table, index int, such func(key []byte) bool) (api.Entry, bool) {
	var list []api.Entry
	for id, ok := t.Behind(0); ok; id, ok = t.Behind(id) {
		row, _ := t.Row(id)
		if key := t.Key(index, row, id); such(key) {
			list = append(list, api.Entry{Key: key, Id: id})
		}
	}
	if len(list) == 0 {
		return api.Entry{}, false
	}
	return slices.MinFunc(list, func(a, b api.Entry) int { return bytes.Compare(a.Key, b.Key) }), true
}

// guards guards the first change that isn't.
func (j *judge) guards(to int) (int, bool) {
	if j.code != api.OK {
		return to, false
	}
	t := j.target()
	d := t.Desc()
	for n, c := range j.changes {
		if j.guarded[n] {
			continue
		}
		var list []api.Lock
		wants := func(res string) { list = append(list, api.Lock{Res: res, Mode: api.X}) }
		if c.Id > 0 {
			wants(vm.ResRow(d.Name, c.Id))
		}
		for _, s := range t.Spots(c) {
			if s.End {
				wants(vm.ResEnd(d.Name, d.Indexes[s.Index].Name))
			} else {
				wants(vm.ResKey(d.Name, d.Indexes[s.Index].Name, s.Key))
			}
		}
		was, there := t.Row(c.Id)
		for at, x := range d.Indexes {
			if there && !c.Del && string(t.Key(at, was, c.Id)) != string(t.Key(at, c.Row, c.Id)) {
				wants(vm.ResKey(d.Name, x.Name, t.Key(at, c.Row, c.Id)))
			}
		}
		if !j.get(list...) {
			return 0, true
		}
		j.guarded[n] = true
		return j.place, false
	}
	return to, false
}

// applies makes the changes; the answer is whether it waits.
func (j *judge) applies() bool {
	if j.code != api.OK {
		return false
	}
	t := j.target()
	d := t.Desc()
	come, go1 := 0, 0
	for _, c := range j.changes {
		if c.Id == 0 {
			come++
		}
		if c.Del {
			go1++
		}
	}
	if come > 0 && t.Len()+come-go1+j.w.x.Gone(j.txn, d.Name) > j.most && !j.get(api.Lock{Res: vm.ResTable(d.Name), Mode: api.SIX}) {
		return true
	}
	if come > 0 && t.Len()+come-go1 > j.most {
		j.note(api.ErrFull)
	}
	j.note(t.Check(j.changes))
	if j.code != api.OK {
		return false
	}
	// A transaction that waits gets no lock: new rows have to wait for what it waits for, though they don't want that any more.
	if _, waits := j.w.l.Wish(j.txn); waits && come > 0 {
		return true
	}
	id := t.Last()
	j.note(j.w.x.Apply(j.txn, d.Name, j.changes))
	for _, c := range j.changes {
		if c.Id != 0 {
			continue
		}
		id++
		row, _ := t.Row(id)
		got := j.get(api.Lock{Res: vm.ResRow(d.Name, id), Mode: api.X})
		for at, x := range d.Indexes {
			got = j.get(api.Lock{Res: vm.ResKey(d.Name, x.Name, t.Key(at, row, id)), Mode: api.X}) && got
		}
		if !got {
			j.w.Errorf("somebody knows the row %d", id)
		}
	}
	j.count = len(j.changes)
	return false
}

// sort puts row by row ahead of those behind which it needn't stand.
func (j *judge) sort(desc []bool) {
	behind := func(a, b []api.Value) bool {
		for i, down := range desc {
			if i >= len(a) || i >= len(b) {
				return false
			}
			if order := value.Compare(a[i], b[i]); order != 0 {
				return (order > 0) != down
			}
		}
		return false
	}
	for i := range j.rows {
		for k := i; k > 0 && behind(j.sorts[k-1], j.sorts[k]); k-- {
			j.rows[k-1], j.rows[k] = j.rows[k], j.rows[k-1]
			j.sorts[k-1], j.sorts[k] = j.sorts[k], j.sorts[k-1]
		}
	}
}

func (j *judge) result() api.Result {
	switch {
	case j.wrong:
		return api.Result{Code: api.ErrPlan}
	case j.code != api.OK:
		return api.Result{Code: j.code}
	}
	return api.Result{Rows: j.rows, Count: j.count}
}
