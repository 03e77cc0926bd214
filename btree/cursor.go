package btree

import "hasp/api"

// Cursor goes through a Tree while it changes: it holds no node, just the key at which it stands.
type Cursor struct {
	tree  *Tree
	key   string
	ended bool
}

// Seek gives a Cursor at the first entry that isn't ahead of a key.
func (t *Tree) Seek(key []byte) *Cursor {
	c := &Cursor{tree: t}
	c.seek(string(key))
	return c
}

// Entry gives the entry at which the Cursor stands.
func (c *Cursor) Entry() (api.Entry, bool) {
	if c.ended {
		return api.Entry{}, false
	}
	e, ok := c.tree.get(c.key)
	if !ok {
		return api.Entry{}, false
	}
	return e.entry(), true
}

// Next goes to the next entry.
func (c *Cursor) Next() bool {
	if !c.ended {
		// No key comes between a key and itself with a byte 0 behind.
		c.seek(c.key + "\x00")
	}
	return !c.ended
}

// seek goes to the first entry that isn't ahead of a key.
func (c *Cursor) seek(key string) {
	e, ok := c.tree.root.from(key)
	c.key, c.ended = e.key, !ok
}
