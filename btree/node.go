package btree

import (
	"slices"
	"strings"

	"hasp/api"
)

// least is the size below which a node that isn't the root may not be.
const least = api.Fanout / 2

// part is a part of a node: of a leaf an entry, of an inner node a child.
//
// A child's key is a bound: no key in the child is ahead of it, and all keys in the children to the left are. Where the child is an inner node, its own first bound is that same key; so what moves from node to node takes a right bound along.
type part struct {
	key string
	id  int
	kid *node
}

// entry gives a leaf's part in new memory.
func (p part) entry() api.Entry { return api.Entry{Key: []byte(p.key), Id: p.id} }

// node is a leaf or an inner node: its parts in the order of their keys.
type node struct{ parts []part }

// isLeaf tells whether a node is a leaf; only that of an empty tree has no parts.
func (n *node) isLeaf() bool { return len(n.parts) == 0 || n.parts[0].kid == nil }

// find gives the place of the first part whose key isn't ahead of key, and whether it is that key.
func (n *node) find(key string) (int, bool) {
	return slices.BinarySearchFunc(n.parts, key, func(p part, key string) int {
		return strings.Compare(p.key, key)
	})
}

// child gives the place of the child in which a key belongs.
func (n *node) child(key string) int {
	i, same := n.find(key)
	if same {
		return i
	}
	return i - 1
}

// put adds an entry; the node may be too great by one then.
func (n *node) put(key string, id int) bool {
	if n.isLeaf() {
		i, same := n.find(key)
		if same {
			return false
		}
		n.parts = slices.Insert(n.parts, i, part{key: key, id: id})
		return true
	}
	i := n.child(key)
	kid := n.parts[i].kid
	if !kid.put(key, id) {
		return false
	}
	if len(kid.parts) > api.Fanout {
		n.halve(i)
	}
	return true
}

// drop takes an entry away; the node may be too small by one then.
func (n *node) drop(key string) bool {
	if n.isLeaf() {
		i, same := n.find(key)
		if !same {
			return false
		}
		n.parts = slices.Delete(n.parts, i, i+1)
		return true
	}
	i := n.child(key)
	kid := n.parts[i].kid
	if !kid.drop(key) {
		return false
	}
	if len(kid.parts) < least {
		n.refill(i)
	}
	return true
}

// refill puts a child that is too small together with one beside it, and shares out what is enough for two.
func (n *node) refill(i int) {
	left := max(i-1, 0)
	n.join(left)
	if len(n.parts[left].kid.parts) >= 2*least {
		n.halve(left)
	}
}

// join puts what the child behind a child has into that child.
func (n *node) join(i int) {
	left, right := n.parts[i].kid, n.parts[i+1].kid
	left.parts = append(left.parts, right.parts...)
	n.parts = slices.Delete(n.parts, i+1, i+2)
}

// halve puts the greater half of a child into a new one behind it.
func (n *node) halve(i int) {
	left := n.parts[i].kid
	half := len(left.parts) / 2
	right := &node{parts: slices.Clone(left.parts[half:])}
	left.parts = slices.Delete(left.parts, half, len(left.parts))
	n.parts = slices.Insert(n.parts, i+1, part{key: right.parts[0].key, kid: right})
}

// from gives the first entry that isn't ahead of a key.
func (n *node) from(key string) (part, bool) {
	if n.isLeaf() {
		i, _ := n.find(key)
		if i == len(n.parts) {
			return part{}, false
		}
		return n.parts[i], true
	}
	i := n.child(key)
	if e, ok := n.parts[i].kid.from(key); ok {
		return e, true
	}
	// The key is behind all of its child: the next one begins with the entry.
	if i+1 == len(n.parts) {
		return part{}, false
	}
	return n.parts[i+1].kid.first(), true
}

// first gives the first entry of a node that has one.
func (n *node) first() part {
	for !n.isLeaf() {
		n = n.parts[0].kid
	}
	return n.parts[0]
}

// appendEntries puts a node's entries behind a list.
func (n *node) appendEntries(list []api.Entry) []api.Entry {
	for _, p := range n.parts {
		if p.kid == nil {
			list = append(list, p.entry())
		} else {
			list = p.kid.appendEntries(list)
		}
	}
	return list
}

// below gives the nodes of the level below a level's.
func below(level []*node) []*node {
	var kids []*node
	for _, n := range level {
		for _, p := range n.parts {
			if p.kid != nil {
				kids = append(kids, p.kid)
			}
		}
	}
	return kids
}
