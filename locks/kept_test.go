package locks

import (
	"testing"

	"hasp/api"
)

// TestKept looks whether nothing is kept of what was given up.
func TestKept(t *testing.T) {
	x := New()
	for txn := range 5 {
		x.Ask(txn, "a", api.S)
		x.Ask(txn, string(rune('b'+txn)), api.X)
	}
	x.Ask(0, "a", api.X)
	x.Ask(7, "a", api.IS)
	for txn := range 8 {
		x.Drop(txn)
	}
	if len(x.things) != 0 || len(x.held) != 0 || len(x.wishes) != 0 {
		t.Errorf("kept: %v, %v, %v", x.things, x.held, x.wishes)
	}
}
