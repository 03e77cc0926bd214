package script_test

import (
	"fmt"
	"math"
	"reflect"
	"strings"
	"testing"

	"hasp/api"
	"hasp/engine"
	"hasp/script"
)

func submit(session int, text string) api.Step {
	return api.Step{Kind: api.StepSubmit, Session: session, Text: text}
}

func pick(session int) api.Step { return api.Step{Kind: api.StepPick, Session: session} }

func breakOff(session int) api.Step { return api.Step{Kind: api.StepBreak, Session: session} }

// rounds gives so many rounds.
func rounds(n int) []api.Step {
	list := make([]api.Step, n)
	for i := range list {
		list[i].Kind = api.StepRound
	}
	return list
}

// does gives a statement of a session, and steps enough for it.
func does(session int, text string) []api.Step {
	list := []api.Step{submit(session, text)}
	for range 400 {
		list = append(list, pick(session))
	}
	return list
}

// sample gives two tables, of which t has three rows.
func sample() []api.Step {
	var list []api.Step
	for _, text := range []string{"CREATE TABLE t (a INT, b INT)", "CREATE UNIQUE INDEX i ON t (a)", "INSERT INTO t VALUES (1, 10), (2, 20), (3, 30)", "CREATE TABLE u (c INT NOT NULL)"} {
		list = append(list, does(0, text)...)
	}
	return list
}

// play plays a script that a new engine takes.
func play(t *testing.T, sessions, rows int, steps []api.Step) api.Outcome {
	t.Helper()
	o, code := script.Play(api.Config{Sessions: sessions, Rows: rows}, steps)
	if code != api.OK {
		t.Fatalf("Play: %d", code)
	}
	return o
}

// shown gives replies as text: "0: 4/2 code 0 [[{2 1 }]] 0; " is of session 0, in transaction 4 with Seq 2, its rows and Count.
func shown(list []api.Reply) string {
	s := ""
	for _, r := range list {
		s += fmt.Sprintf("%d: %d/%d code %d %v %d; ", r.Session, r.Txn, r.Seq, int(r.Code), r.Rows, r.Count)
	}
	return s
}

func told(t *testing.T, what string, got any, want string) {
	t.Helper()
	if s := fmt.Sprint(got); s != want {
		t.Errorf("%s: %s, not %s", what, s, want)
	}
}

func TestP26_1Config(t *testing.T) {
	steps := append(does(0, "CREATE TABLE t (a INT)"), api.Step{}, breakOff(99))
	for _, c := range []struct {
		sessions, rows int
		code           api.Errno
	}{
		{1, 1, api.OK}, {16, 1, api.OK}, {1, 1000, api.OK}, {16, 1000, api.OK}, {3, 7, api.OK},
		{0, 0, api.ErrArg}, {0, 1, api.ErrArg}, {-1, 1, api.ErrArg}, {17, 1, api.ErrArg}, {1, 0, api.ErrArg}, {1, -1, api.ErrArg}, {1, 1001, api.ErrArg}, {17, 1001, api.ErrArg},
		{math.MaxInt, 1, api.ErrArg}, {math.MinInt, 1, api.ErrArg}, {1, math.MaxInt, api.ErrArg}, {1, math.MinInt, api.ErrArg}, {1 << 32, 1, api.ErrArg}, {1 + 1<<32, 1, api.ErrArg},
	} {
		for _, list := range [][]api.Step{nil, {}, steps} {
			o, code := script.Play(api.Config{Sessions: c.sessions, Rows: c.rows}, list)
			if code != c.code {
				t.Errorf("%d sessions, %d rows: %d", c.sessions, c.rows, code)
			}
			if code != api.OK && !reflect.DeepEqual(o, api.Outcome{}) {
				t.Errorf("beside an error: %v", o)
			}
			if code == api.OK && (len(o.Sessions) != c.sessions || !o.Sound || len(list) == 0 && len(o.Replies)+len(o.Dump)+len(o.Locks)+len(o.Edges) != 0) {
				t.Errorf("%d sessions, %d steps: %v", c.sessions, len(list), o)
			}
		}
	}
}

// TestP26_1Rows has the greatest number of rows reach the engine.
func TestP26_1Rows(t *testing.T) {
	for rows := 1; rows <= 3; rows++ {
		steps := does(0, "CREATE TABLE t (a INT)")
		for range 4 {
			steps = append(steps, does(0, "INSERT INTO t VALUES (1)")...)
		}
		full := 0
		for _, r := range play(t, 1, rows, steps).Replies {
			if r.Code == api.ErrFull {
				full++
			}
		}
		told(t, "refused", full, fmt.Sprint(4-rows))
	}
}

// TestP26_1Example is the chapter's.
func TestP26_1Example(t *testing.T) {
	for _, sessions := range []int{1, 2, 16} {
		o := play(t, sessions, 5, append([]api.Step{submit(0, "CREATE TABLE t (a INT)")}, rounds(20)...))
		told(t, "replies", o.Replies, "[{0 CREATE TABLE t (a INT) 1 1 errno 0 [] [] 0}]")
		told(t, "tables", o.Dump, "[{{t [{a 2 false}] []} []}]")
		told(t, "sessions", o.Sessions, "["+strings.TrimSpace(strings.Repeat("{0 false false false} ", sessions))+"]")
		told(t, "locks, edges, sound", fmt.Sprint(o.Locks, o.Edges, o.Sound), "[] [] true")
	}
}

// TestP26_1Submit submits without any step: nothing is done, and a busy session takes nothing else.
func TestP26_1Submit(t *testing.T) {
	o := play(t, 2, 5, []api.Step{submit(1, "BEGIN"), submit(1, "nonsense")})
	told(t, "replies", o.Replies, "[]")
	told(t, "sessions", o.Sessions, "[{0 false false false} {0 false false true}]")
	o = play(t, 2, 5, []api.Step{submit(1, "BEGIN"), submit(1, "nonsense"), pick(1), submit(1, "COMMIT"), pick(1), pick(1), submit(0, "")})
	told(t, "replies", shown(o.Replies), "1: 1/0 code 0 [] 0; 1: 1/1 code 0 [] 0; ")
	told(t, "sessions", o.Sessions, "[{0 false false true} {0 false false false}]")
}

// TestP26_1Pick lets one session do one step.
func TestP26_1Pick(t *testing.T) {
	steps := append(sample(), submit(0, "DROP TABLE u"), submit(1, "DROP TABLE t"))
	for _, c := range []struct {
		picks []int
		locks string
	}{
		{[]int{0}, "[]"}, {[]int{0, 1}, "[]"}, {[]int{1, 1}, "[{5 n/ 6}]"}, {[]int{0, 0, 1}, "[{5 n/ 6}]"}, {[]int{0, 0, 0}, "[{5 n/ 6} {5 n/u 6}]"},
	} {
		list := steps
		for _, n := range c.picks {
			list = append(list, pick(n))
		}
		told(t, fmt.Sprint(c.picks), play(t, 2, 5, list).Locks, c.locks)
	}
}

// TestP26_1Round lets each session do one step, by rising numbers, whatever else a round says.
func TestP26_1Round(t *testing.T) {
	for _, sessions := range []int{1, 2, 5, 16} {
		for _, session := range []int{0, 1, 7, -1, 16, math.MaxInt} {
			var steps []api.Step
			want := ""
			for n := range sessions {
				steps = append(steps, submit(sessions-1-n, "BEGIN"))
				want += fmt.Sprintf("%d: %d/0 code 0 [] 0; ", n, n+1)
			}
			steps = append(steps, api.Step{Kind: api.StepRound, Session: session, Text: "COMMIT"})
			o := play(t, sessions, 5, steps)
			told(t, "replies", shown(o.Replies), want)
		}
	}
	// One step each, and no more.
	o := play(t, 3, 5, append([]api.Step{submit(0, "CREATE TABLE t (a INT)"), submit(2, "CREATE TABLE u (a INT)")}, rounds(2)...))
	told(t, "replies", o.Replies, "[]")
	told(t, "sessions", o.Sessions, "[{1 false false true} {0 false false false} {2 false false true}]")
	told(t, "locks", o.Locks, "[{1 n/ 6}]")
	told(t, "edges", o.Edges, "[{2 1}]")
}

// TestP26_1Break breaks sessions off.
func TestP26_1Break(t *testing.T) {
	steps := append(sample(), does(1, "BEGIN")...)
	steps = append(steps, does(1, "DELETE FROM t WHERE a = 2")...)
	steps = append(steps, does(0, "SELECT a FROM t")...)
	o := play(t, 2, 5, steps)
	told(t, "replies", len(o.Replies), "6")
	told(t, "edges", o.Edges, "[{6 5}]")
	o = play(t, 2, 5, append(steps, breakOff(0)))
	told(t, "sessions", o.Sessions, "[{0 false false false} {5 true false false}]")
	told(t, "rows", len(o.Dump[0].Rows), "2")
	o = play(t, 2, 5, append(steps, breakOff(1)))
	told(t, "sessions", o.Sessions, "[{6 false false true} {0 false false false}]")
	told(t, "edges", o.Edges, "[]")
	o = play(t, 2, 5, append(append(steps, breakOff(1)), rounds(40)...))
	told(t, "the last reply", shown(o.Replies[6:]), "0: 6/5 code 0 [[{2 1 }] [{2 2 }] [{2 3 }]] 0; ")
	told(t, "locks", o.Locks, "[]")
}

// TestP26_1Nothing has steps that do nothing: of other kinds, and of sessions that there aren't.
func TestP26_1Nothing(t *testing.T) {
	var idle []api.Step
	for _, kind := range []int{0, 5, -1, 9, math.MaxInt, math.MinInt, 1 + 1<<32} {
		idle = append(idle, api.Step{Kind: kind, Session: 1, Text: "BEGIN"})
	}
	for _, n := range []int{2, -1, 16, math.MaxInt, math.MinInt, 1 << 32} {
		idle = append(idle, submit(n, "BEGIN"), pick(n), breakOff(n))
	}
	idle = append(idle, pick(1)) // it has nothing to do
	plain := sample()
	var steps []api.Step
	for _, s := range plain {
		steps = append(append(steps, s), idle...)
	}
	got, want := play(t, 2, 5, append(steps, idle...)), play(t, 2, 5, plain)
	if !reflect.DeepEqual(got, want) {
		t.Errorf("%v, not %v", got, want)
	}
	if len(want.Replies) != 4 {
		t.Errorf("replies %v", want.Replies)
	}
}

// TestP26_1Whole plays examples of several sessions.
func TestP26_1Whole(t *testing.T) {
	type line struct {
		session int
		text    string
	}
	first := []line{{0, "CREATE TABLE t (a INT NOT NULL, b REAL)"}, {0, "INSERT INTO t VALUES (1, 0.5), (2, NAN), (4, - INFINITY)"}, {0, "BEGIN"}}
	for _, c := range []struct {
		lines []line
		want  string // the replies behind the first ones
	}{
		{[]line{{0, "SELECT a FROM t WHERE a > 3"}, {1, "INSERT INTO t VALUES (9, 1.0)"}, {0, "SELECT a FROM t WHERE a > 3"}, {0, "COMMIT"}, {1, ""}},
			"0: 3/0 code 0 [[{2 4 }]] 0; 0: 3/0 code 0 [[{2 4 }]] 0; 0: 3/3 code 0 [] 0; 1: 4/4 code 0 [] 1; "},
		{[]line{{0, "DROP TABLE t"}, {1, "SELECT a FROM t ORDER BY a DESC"}, {0, "ROLLBACK"}, {1, ""}},
			"0: 3/0 code 0 [] 0; 0: 3/0 code 0 [] 0; 1: 4/3 code 0 [[{2 4 }] [{2 2 }] [{2 1 }]] 0; "},
		{[]line{{0, "SELECT a FROM t WHERE a = 1"}, {1, "BEGIN"}, {1, "SELECT a FROM t WHERE a = 2"}, {0, "DELETE FROM t"}, {1, "DELETE FROM t"}, {1, "SELECT a FROM t"}, {0, ""}, {0, "COMMIT"}, {1, "ROLLBACK"}},
			"0: 3/0 code 0 [[{2 1 }]] 0; 1: 4/0 code 0 [] 0; 1: 4/0 code 0 [[{2 2 }]] 0; 1: 4/0 code 251 [] 0; 1: 0/0 code 252 [] 0; 0: 3/0 code 0 [] 3; 0: 3/3 code 0 [] 0; 1: 0/0 code 0 [] 0; "},
	} {
		var steps []api.Step
		for _, l := range append(first, c.lines...) {
			steps = append(steps, does(l.session, l.text)...)
		}
		o := play(t, 2, 8, steps)
		told(t, fmt.Sprint(c.lines), shown(o.Replies[3:]), c.want)
		if !o.Sound {
			t.Error("not sound")
		}
	}
}

// direct does on an engine what a step says.
func direct(e *engine.Engine, sessions int, s api.Step) {
	switch s.Kind {
	case api.StepSubmit:
		e.Submit(s.Session, s.Text)
	case api.StepPick:
		e.Step(s.Session)
	case api.StepBreak:
		e.Break(s.Session)
	case api.StepRound:
		for n := 0; n < sessions; n++ {
			e.Step(n)
		}
	}
}
