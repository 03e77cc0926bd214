package table

import (
	"bytes"
	"slices"

	"hasp/api"
	"hasp/btree"
	"hasp/keys"
)

// index is an index with its entries.
type index struct {
	api.Index
	tree *btree.Tree
	// In a unique index: how many lists of values several rows have in common. Undoing changes out of their order can bring rows back that are alike.
	crowds int
}

func newIndex(x api.Index) *index { return &index{Index: copyIndex(x), tree: btree.New()} }

func copyIndex(x api.Index) api.Index {
	x.Cols = slices.Clone(x.Cols)
	return x
}

// reaches tells whether a row has a value for each of the index's columns.
func (x *index) reaches(row []api.Value) bool { return len(row) > slices.Max(x.Cols) }

// values gives the values of the index's columns.
func (x *index) values(row []api.Value) []api.Value {
	list := make([]api.Value, len(x.Cols))
	for i, col := range x.Cols {
		list[i] = row[col]
	}
	return list
}

// stem gives the key of the values alone: the keys of all rows that have these values begin with it, and no others do.
func (x *index) stem(row []api.Value) []byte { return keys.Encode(x.values(row)) }

// key gives the key of a row.
func (x *index) key(row []api.Value, id int) []byte {
	return keys.Encode(append(x.values(row), api.Value{Kind: api.Int, Num: int64(id)}))
}

// alone tells whether the index wants a row to be the only one with its values.
func (x *index) alone(row []api.Value) bool {
	return x.Unique && !slices.ContainsFunc(x.values(row), func(v api.Value) bool { return v.Kind == api.Null })
}

// count tells how many entries have keys that begin with a stem.
func (x *index) count(stem []byte) int {
	n := 0
	for e, ok := x.tree.From(stem); ok && bytes.HasPrefix(e.Key, stem); e, ok = x.tree.From(next(e.Key)) {
		n++
	}
	return n
}

// next gives the first of all keys that come behind a key.
func next(key []byte) []byte { return append(key, 0) }

// put adds the entry of a row.
func (x *index) put(row []api.Value, id int) {
	if x.alone(row) && x.count(x.stem(row)) == 1 {
		x.crowds++
	}
	x.tree.Put(x.key(row, id), id)
}

// drop takes the entry of a row away.
func (x *index) drop(row []api.Value, id int) {
	x.tree.Drop(x.key(row, id))
	if x.alone(row) && x.count(x.stem(row)) == 1 {
		x.crowds--
	}
}

// crowdsBehind tells how many crowds there would be, if some rows went and others came.
func (x *index) crowdsBehind(gone, come [][]api.Value) int {
	moves := map[string]int{}
	for _, row := range gone {
		if x.alone(row) {
			moves[string(x.stem(row))]--
		}
	}
	for _, row := range come {
		if x.alone(row) {
			moves[string(x.stem(row))]++
		}
	}
	crowds := x.crowds
	for stem, more := range moves {
		now := x.count([]byte(stem))
		if now > 1 {
			crowds--
		}
		if now+more > 1 {
			crowds++
		}
	}
	return crowds
}

// spots gives the entries that are touched, where a row that was (nil: none) becomes another one (nil: none).
func (x *index) spots(place, id int, was, row []api.Value) []api.Spot {
	if was != nil && row != nil && bytes.Equal(x.stem(was), x.stem(row)) {
		return nil
	}
	var list []api.Spot
	if was != nil {
		key := x.key(was, id)
		list = append(list, api.Spot{Index: place, Key: key}, x.spot(place, next(key)))
	}
	if row != nil {
		list = append(list, x.spot(place, x.stem(row)))
	}
	return list
}

// spot gives the first entry that isn't ahead of a key.
func (x *index) spot(place int, key []byte) api.Spot {
	e, ok := x.tree.From(key)
	return api.Spot{Index: place, Key: e.Key, End: !ok}
}
