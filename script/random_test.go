package script_test

import (
	"math/rand/v2"
	"reflect"
	"slices"
	"testing"

	"hasp/api"
	"hasp/engine"
)

// statements are what sessions submit.
var statements = []string{
	"BEGIN", "BEGIN", "COMMIT", "COMMIT", "ROLLBACK", "nonsense", "SELECT z FROM t",
	"SELECT * FROM t", "SELECT b FROM t WHERE a = 2", "SELECT t.b FROM t JOIN u ON t.a = u.c ORDER BY t.b", "SELECT name FROM systables",
	"INSERT INTO t VALUES (4, 40)", "INSERT INTO t VALUES (1, 1)", "INSERT INTO u VALUES (2), (3)", "INSERT INTO u VALUES (NULL)",
	"UPDATE t SET b = b + 1 WHERE a = 1", "UPDATE t SET b = b + 1 WHERE a = 2", "UPDATE t SET a = a + 1", "DELETE FROM t WHERE a = 3", "DELETE FROM u",
	"CREATE TABLE w (x INT)", "DROP TABLE w", "CREATE INDEX j ON u (c)", "DROP INDEX j",
}

// randomSteps gives steps of all kinds, most of which let some session do something.
func randomSteps(g *rand.Rand, sessions, n int) []api.Step {
	list := sample()
	for range n {
		s := api.Step{Session: g.IntN(sessions)}
		switch k := g.IntN(100); {
		case k < 25:
			s.Kind, s.Text = api.StepSubmit, statements[g.IntN(len(statements))]
		case k < 80:
			s.Kind = api.StepPick
		case k < 97:
			s.Kind = api.StepRound
		case k < 98:
			s.Kind = api.StepBreak
		case k < 99:
			s.Kind, s.Session = api.StepPick, sessions
		}
		list = append(list, s)
	}
	return list
}

// outcomeOf gives what an engine tells, on which the same was done.
func outcomeOf(e *engine.Engine) api.Outcome {
	return api.Outcome{Replies: e.Replies(0), Sessions: e.Sessions(), Dump: e.Dump(), Locks: e.Locks(), Edges: e.Edges(), Sound: e.Sound()}
}

// TestP26_1Random holds scripts of all lengths against an engine on which their steps are done one by one.
func TestP26_1Random(t *testing.T) {
	t.Parallel()
	g := rand.New(rand.NewPCG(1, 26))
	codes := map[api.Errno]int{}
	begun, waiting := 0, 0
	for range 60 {
		sessions := 1 + g.IntN(5)
		steps := randomSteps(g, sessions, 600)
		e, _ := engine.New(api.Config{Sessions: sessions, Rows: 6})
		var before []api.Reply
		for n := 0; n <= len(steps); n++ {
			if n == len(steps) || g.IntN(80) == 0 {
				got, want := play(t, sessions, 6, steps[:n]), outcomeOf(e)
				if !reflect.DeepEqual(got, want) {
					t.Fatalf("%d steps: %v, not %v", n, got, want)
				}
				if len(got.Replies) < len(before) || len(before) > 0 && !reflect.DeepEqual(got.Replies[:len(before)], before) {
					t.Fatalf("%d steps: replies %v don't begin with %v", n, got.Replies, before)
				}
				before = got.Replies
				begun, waiting = begun+len(got.Locks), waiting+len(got.Edges)
			}
			if n < len(steps) {
				direct(e, sessions, steps[n])
			}
		}
		for _, r := range before {
			codes[r.Code]++
		}
	}
	for _, code := range []api.Errno{api.OK, api.ErrSyntax, api.ErrState, api.ErrDeadlock, api.ErrAborted, api.ErrUnique, api.ErrExists} {
		if codes[code] < 5 {
			t.Errorf("code %d: %d times", int(code), codes[code])
		}
	}
	if begun == 0 || waiting == 0 {
		t.Errorf("locks %d, edges %d", begun, waiting)
	}
}

// copied gives steps in lists of their own, with spare room in which other steps stand.
func copied(steps []api.Step) []api.Step {
	list := append(slices.Clone(steps), submit(0, "DROP TABLE t"), pick(0), pick(1))
	return list[:len(steps)]
}

// TestP26_2Steps holds that the steps handed in, their spare room too, aren't changed, and that nothing hangs on them behind the call.
func TestP26_2Steps(t *testing.T) {
	g := rand.New(rand.NewPCG(2, 26))
	for range 10 {
		steps := randomSteps(g, 3, 400)
		given := copied(steps)
		room := slices.Clone(given[:cap(given)])
		got := play(t, 3, 6, given)
		if !slices.Equal(given[:cap(given)], room) {
			t.Fatal("the steps have changed")
		}
		clear(given[:cap(given)])
		if want := play(t, 3, 6, steps); !reflect.DeepEqual(got, want) {
			t.Fatalf("%v, not %v", got, want)
		}
	}
}

// each goes through all slices that a value has in it.
func each(v reflect.Value, visit func(list reflect.Value)) {
	switch v.Kind() {
	case reflect.Slice:
		for i, all := 0, v.Slice(0, v.Cap()); i < all.Len(); i++ {
			each(all.Index(i), visit)
		}
		visit(v)
	case reflect.Struct:
		for i := range v.NumField() {
			each(v.Field(i), visit)
		}
	}
}

// TestP26_2Memory holds that no two lists of an outcome, or of two, share memory, and that what is written over in one is seen in no other.
func TestP26_2Memory(t *testing.T) {
	g := rand.New(rand.NewPCG(3, 26))
	for range 10 {
		steps := randomSteps(g, 3, 400)
		one, two := play(t, 3, 6, steps), play(t, 3, 6, steps)
		want := play(t, 3, 6, steps)
		type room struct{ from, end uintptr }
		var all []room
		note := func(list reflect.Value) {
			if list.Cap() > 0 {
				all = append(all, room{list.Pointer(), list.Pointer() + uintptr(list.Cap())*list.Type().Elem().Size()})
			}
		}
		each(reflect.ValueOf(one), note)
		each(reflect.ValueOf(two), note)
		slices.SortFunc(all, func(a, b room) int { return int(int64(a.from) - int64(b.from)) })
		for i := 1; i < len(all); i++ {
			if all[i].from < all[i-1].end {
				t.Fatal("two lists share memory")
			}
		}
		each(reflect.ValueOf(one), func(list reflect.Value) { list.Slice(0, list.Cap()).Clear() })
		if again := play(t, 3, 6, steps); !reflect.DeepEqual(two, want) || !reflect.DeepEqual(again, want) {
			t.Fatal("what was written over in one outcome is seen in another")
		}
	}
}
