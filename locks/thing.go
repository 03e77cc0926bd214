package locks

import (
	"slices"

	"hasp/api"
	"hasp/modes"
)

// thing is what somebody has a lock of: where nobody has one, nobody waits.
type thing struct {
	modes map[int]int    // of the locks, by transaction
	count [api.X + 1]int // of the locks, by mode: many transactions may share a thing
	queue []api.Lock
}

// newThing gives a thing of which there is no lock yet.
func newThing() *thing { return &thing{modes: map[int]int{}} }

// admits tells whether a mode goes together with the locks of all other transactions.
func (th *thing) admits(txn, mode int) bool {
	others := th.count
	if own, ok := th.modes[txn]; ok {
		others[own]--
	}
	for m, n := range others {
		if n > 0 && !modes.Together(m, mode) {
			return false
		}
	}
	return true
}

// give makes a lock, in the place of the weaker one that the transaction may have.
func (th *thing) give(txn, mode int) {
	th.take(txn)
	th.modes[txn] = mode
	th.count[mode]++
}

// take takes a transaction's lock away, if it has one.
func (th *thing) take(txn int) {
	if mode, ok := th.modes[txn]; ok {
		delete(th.modes, txn)
		th.count[mode]--
	}
}

// wait puts a wish in the queue: a change behind the other changes, any other wish behind all.
func (th *thing) wait(wish api.Lock) {
	at := len(th.queue)
	if th.has(wish.Txn) {
		at = slices.IndexFunc(th.queue, func(w api.Lock) bool { return !th.has(w.Txn) })
		if at < 0 {
			at = len(th.queue)
		}
	}
	th.queue = slices.Insert(th.queue, at, wish)
}

// leave takes a transaction's wish out of the queue, if it has one there.
func (th *thing) leave(txn int) {
	th.queue = slices.DeleteFunc(th.queue, func(w api.Lock) bool { return w.Txn == txn })
}

// has tells whether a transaction has a lock.
func (th *thing) has(txn int) bool {
	_, ok := th.modes[txn]
	return ok
}

// barring gives the transactions for which a wish waits, each once, by rising numbers.
func (th *thing) barring(wish api.Lock) []int {
	var list []int
	for txn, mode := range th.modes {
		if txn != wish.Txn && !modes.Together(mode, wish.Mode) {
			list = append(list, txn)
		}
	}
	for _, ahead := range th.queue {
		if ahead.Txn == wish.Txn {
			break
		}
		list = append(list, ahead.Txn)
	}
	slices.Sort(list)
	return slices.Compact(list)
}
