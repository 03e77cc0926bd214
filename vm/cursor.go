package vm

import (
	"bytes"
	"slices"

	"hasp/api"
	"hasp/expr"
	"hasp/keys"
	"hasp/table"
)

// cursor goes over a table's rows by their numbers, or (index isn't -1) along an index.
type cursor struct {
	isOpen bool
	table  string
	index  int
	span
	id   int         // of the row at which it stood last; 0: it never did
	row  []api.Value // without one it is at no row
	code api.Errno
}

// span is the part of an index that is still ahead of a cursor.
type span struct {
	isEmpty  bool
	from, to []byte // from itself is in, to is out; without a to there is no end
}

func isCursor(n int) bool { return n >= 0 && n < api.MaxFrom }

// has tells whether a table has an index at that place; by the rows (-1) it can be gone through always.
func has(t *table.Table, index int) bool {
	return index == -1 || index >= 0 && index < len(t.Desc().Indexes)
}

// over gives the rows over which codes are evaluated.
func (r *Run) over() [][]api.Value {
	list := make([][]api.Value, len(r.cursors))
	for n, c := range r.cursors {
		list[n] = c.row
	}
	return list
}

func (r *Run) open(x api.Instr) {
	must(isCursor(x.C))
	t, ok := r.store.Table(x.Table)
	must(ok && has(t, x.Index))
	c := cursor{isOpen: true, table: x.Table, index: x.Index}
	if x.Index != -1 {
		c.span = r.between(x)
	}
	r.cursors[x.C] = c
}

// between gives the part of an index that the values of an instruction's Lo and Hi bound.
func (r *Run) between(x api.Instr) span {
	lo, allLo := r.known(x.Lo)
	hi, allHi := r.known(x.Hi)
	if slices.ContainsFunc(slices.Concat(lo, hi), isNull) {
		return span{isEmpty: true}
	}
	return span{from: edge(lo, x.LoOut && allLo), to: edge(hi, !x.HiOut || !allHi)}
}

// known gives the values of codes as far as none has an error, and whether these are all.
func (r *Run) known(list []api.Code) ([]api.Value, bool) {
	var values []api.Value
	for _, c := range list {
		v, code := expr.Eval(c, r.over())
		if code != api.OK {
			return values, false
		}
		values = append(values, v)
	}
	return values, true
}

func isNull(v api.Value) bool { return v.Kind == api.Null }

// edge gives the key of values, or the first one behind all that begin with it; without values there is none.
func edge(list []api.Value, isBehind bool) []byte {
	key := keys.Encode(list)
	if isBehind {
		key, _ = keys.Behind(key)
	}
	return key
}

func (r *Run) next(x api.Instr) {
	must(isCursor(x.C) && isModeOrNone(x.Mode) && isModeOrNone(x.Part))
	c := &r.cursors[x.C]
	t, ok := r.store.Table(c.table)
	must(c.isOpen && ok && has(t, c.index))
	e, ok := r.find(*c, t, x.Mode)
	if !ok {
		c.row, r.place = nil, x.To
		return
	}
	r.ask(ResRow(c.table, e.Id), x.Part)
	c.row, _ = t.Row(e.Id)
	c.id, c.code = e.Id, api.OK
	// The first key behind the entry's own: so the cursor goes on rightly though the entry goes.
	c.from = append(e.Key, 0)
}

// find gives the entry at which a cursor is to stand next, without a key where it goes by the rows; false: there is none. The mode is for the entry, and for what bounds the last gap.
func (r *Run) find(c cursor, t *table.Table, mode int) (api.Entry, bool) {
	switch {
	case c.index == -1:
		id, ok := t.Behind(c.id)
		return api.Entry{Id: id}, ok
	case c.isEmpty:
		return api.Entry{}, false
	}
	e, ok := t.From(c.index, c.from)
	r.ask(resSpot(t.Desc(), api.Spot{Index: c.index, Key: e.Key, End: !ok}), mode)
	return e, ok && (c.to == nil || bytes.Compare(e.Key, c.to) < 0)
}
