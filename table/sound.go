package table

import (
	"bytes"
	"slices"

	"hasp/api"
	"hasp/rows"
)

// Sound tells whether every index holds just the rows' keys.
func (t *Table) Sound() bool {
	for _, row := range t.all() {
		if rows.Fit(t.cols, row) != api.OK {
			return false
		}
	}
	for _, x := range t.indexes {
		if !t.holds(x) || !wellShaped(x.tree.Shape(), t.Len()) {
			return false
		}
	}
	return true
}

// holds tells whether an index has the entries of all rows, and no others.
func (t *Table) holds(x *index) bool {
	var want []api.Entry
	for id, row := range t.all() {
		want = append(want, api.Entry{Key: x.key(row, id), Id: id})
	}
	slices.SortFunc(want, func(a, b api.Entry) int { return bytes.Compare(a.Key, b.Key) })
	return slices.EqualFunc(x.tree.Entries(), want, func(a, b api.Entry) bool {
		return a.Id == b.Id && bytes.Equal(a.Key, b.Key)
	})
}

// wellShaped tells whether a tree's nodes have right sizes, level by level.
func wellShaped(shape [][]int, entries int) bool {
	nodes := 1
	for level, sizes := range shape {
		if len(sizes) != nodes {
			return false
		}
		nodes = 0
		for _, size := range sizes {
			if size < least(level == 0, level == len(shape)-1) || size > api.Fanout {
				return false
			}
			nodes += size
		}
	}
	return nodes == entries
}

// least gives the least size of a node.
func least(root, leaf bool) int {
	switch {
	case !root:
		return api.Fanout / 2
	case !leaf:
		return 2
	}
	return 0
}
