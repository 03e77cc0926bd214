package vm_test

import (
	"math"
	"strings"
	"testing"

	"hasp/api"
	"hasp/locks"
	"hasp/vm"
)

func TestP24_1Things(t *testing.T) {
	for _, c := range [][2]string{
		{vm.ResTable("t"), "t/t"},
		{vm.ResTable(""), "t/"},
		{vm.ResTable("a/b"), "t/a/b"},
		{vm.ResRow("t", 12), "r/t/12"},
		{vm.ResRow("", 0), "r//0"},
		{vm.ResRow("t", -3), "r/t/-3"},
		{vm.ResRow("t", math.MaxInt), "r/t/9223372036854775807"},
		{vm.ResRow("t", math.MinInt), "r/t/-9223372036854775808"},
		{vm.ResKey("t", "i", []byte("k")), "k/t/i/k"},
		{vm.ResKey("t", "i", nil), "k/t/i/"},
		{vm.ResKey("t", "i", []byte{0, 255, '/', 128}), "k/t/i/\x00\xff/\x80"},
		{vm.ResEnd("t", "i"), "e/t/i"},
		{vm.ResEnd("", ""), "e//"},
		{vm.ResTable(strings.Repeat("x", 1000)), "t/" + strings.Repeat("x", 1000)},
	} {
		if c[0] != c[1] {
			t.Errorf("%q, not %q", c[0], c[1])
		}
	}
}

// TestP24_1ThingsKept writes over a key behind the call.
func TestP24_1ThingsKept(t *testing.T) {
	key := []byte("abc")
	res := vm.ResKey("t", "i", key)
	copy(key, "xyz")
	if res != "k/t/i/abc" {
		t.Errorf("%q", res)
	}
}

func TestP24_1Lock(t *testing.T) {
	w := sample(t)
	for mode := api.IS; mode <= api.X; mode++ {
		r := w.start(lock("t", mode), lock("none", mode), lock("", mode), halt())
		w.goes("locks", r, "RRRD")
		txn := w.x.Open()[0]
		for _, table := range []string{"t", "none", ""} {
			if got := w.l.Mode(txn, "t/"+table); got != mode {
				t.Errorf("%q is locked in %d, not %d", table, got, mode)
			}
		}
		w.commit(txn)
	}
	w.goes("two modes", w.start(lock("t", api.S), lock("t", api.IX), halt()), "RRD")
	w.holds("two modes", w.x.Open()[0], "t/t SIX")
}

// TestP24_1Blocked waits amid a plan: nothing else is done, and the same instruction is done again.
func TestP24_1Blocked(t *testing.T) {
	w := sample(t)
	other := w.x.Begin()
	w.l.Ask(other, vm.ResTable("u"), api.X)
	r := w.start(emit(num(1)), lock("t", api.IS), lock("u", api.S), emit(num(2)), halt())
	txn := other + 1
	w.goes("up to the lock", r, "RRB")
	for range 3 {
		w.goes("while it waits", r, "B")
		w.told("so far", rowsText(r.Result()), "1")
		w.holds("so far", txn, "t/t IS")
	}
	if wish, ok := w.l.Wish(txn); !ok || wish != (api.Lock{Txn: txn, Res: "t/u", Mode: api.S}) {
		t.Errorf("wishes %v, %v", wish, ok)
	}
	w.l.Drop(other)
	w.goes("behind the wait", r, "RRD")
	w.told("all", rowsText(r.Result()), "1 2")
	w.holds("all", txn, "t/t IS", "t/u S")
}

// TestP24_1Refused has a transaction that waits for something else: it gets nothing, not even what it has.
func TestP24_1Refused(t *testing.T) {
	w := sample(t)
	first, second := w.x.Begin(), w.x.Begin()
	w.l.Ask(second, "t/t", api.IS)
	w.l.Ask(first, "a", api.X)
	w.l.Ask(second, "a", api.X)
	r := w.m.Start(second, api.Plan{Code: []api.Instr{emit(num(1)), lock("t", api.IS), halt()}})
	w.goes("up to the lock", r, "RB")
	w.goes("again", r, "B")
	w.l.Drop(first)
	w.goes("behind the wait", r, "RD")
}

// TestP24_4LocksStay holds that locks stay behind a run, and that nothing gives any up.
func TestP24_4LocksStay(t *testing.T) {
	w := sample(t)
	for _, s := range []string{"SELECT a FROM t WHERE a >= 2", "UPDATE t SET a = 1 / 0", "UPDATE t SET b = 5 WHERE a = 2", "DELETE FROM t WHERE a = 3", "INSERT INTO t VALUES (9, 9)", "SELECT b FROM u"} {
		txn := w.x.Begin()
		r := w.m.Start(txn, w.plan(s))
		var had []api.Lock
		for state := api.Running; state == api.Running; {
			state = r.Step()
			for _, l := range had {
				if w.l.Mode(l.Txn, l.Res) < l.Mode {
					t.Errorf("%s: %v has become %d", s, l, w.l.Mode(l.Txn, l.Res))
				}
			}
			had = w.l.Locks()
		}
		r.Step()
		r.Result()
		if len(had) == 0 || len(w.l.Locks()) != len(had) {
			t.Errorf("%s: locks %v, not %v", s, w.l.Locks(), had)
		}
		w.commit(txn)
	}
}

// TestP24_1TwoMachines holds machines and runs apart.
func TestP24_1TwoMachines(t *testing.T) {
	w, v := sample(t), sample(t)
	other := vm.New(w.s, w.x, locks.New(), 10)
	code := []api.Instr{lock("t", api.X), emit(num(1)), halt()}
	first, second, third := w.start(code...), w.start(code...), other.Start(w.x.Begin(), api.Plan{Code: code})
	w.goes("the first", first, "RRD")
	w.goes("a second one", second, "B")
	w.goes("one with other locks", third, "RRD")
	v.goes("one in another world", v.start(code...), "RRD")
	w.told("the second one", rowsText(second.Result()), "")
}
