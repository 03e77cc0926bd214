package catalog_test

import (
	"fmt"
	"slices"
	"strings"
	"testing"

	"hasp/api"
	"hasp/catalog"
	"hasp/schema"
	"hasp/table"
)

// pairs is a table of two columns with indexes.
func pairs(name string, indexes ...api.Index) api.Table {
	return api.Table{Name: name, Cols: []api.Column{{Name: "a", Type: api.Int}, {Name: "b", Type: api.Text, Required: true}}, Indexes: indexes}
}

func index(name string, cols ...int) api.Index { return api.Index{Name: name, Cols: cols} }

func unique(name string, cols ...int) api.Index {
	return api.Index{Name: name, Cols: cols, Unique: true}
}

// add is a change with a new row.
func add(n int64, s string) api.Change { return api.Change{Row: []api.Value{whole(n), text(s)}} }

func del(id int) api.Change { return api.Change{Id: id, Del: true} }

func set(id int, n int64, s string) api.Change {
	c := add(n, s)
	c.Id = id
	return c
}

// done holds that a call was done, and gives what undoes it.
func done(t *testing.T, s *catalog.Store) func(*catalog.Undo, api.Errno) *catalog.Undo {
	return func(u *catalog.Undo, code api.Errno) *catalog.Undo {
		t.Helper()
		if u == nil || code != api.OK || !s.Sound() {
			t.Fatalf("%v, %d, %v", u, code, s.Sound())
		}
		return u
	}
}

// begin gives a store with the tables t (a, b), with two rows, and u.
func begin(t *testing.T) *catalog.Store {
	t.Helper()
	s := catalog.New()
	ok := done(t, s)
	ok(s.Make(pairs("t", unique("i", 0), index("j", 1, 0))))
	ok(s.Make(pairs("u", index("k", 1))))
	ok(s.Apply("t", []api.Change{add(1, "x"), add(2, "y")}))
	return s
}

// rowsOf gives a table's rows with their numbers, as text.
func rowsOf(t *testing.T, s *catalog.Store, name string) string {
	t.Helper()
	x, ok := s.Table(name)
	if !ok {
		return "none"
	}
	var list []string
	for _, id := range ids(x) {
		row, _ := x.Row(id)
		list = append(list, fmt.Sprint(id, ":", row))
	}
	return strings.Join(list, " ")
}

// indexesOf gives the names of a table's indexes, in their order.
func indexesOf(t *testing.T, s *catalog.Store, name string) string {
	t.Helper()
	x, ok := s.Table(name)
	if !ok {
		return "none"
	}
	list := ""
	for _, x := range x.Desc().Indexes {
		list += x.Name
	}
	return list
}

func TestP20_1New(t *testing.T) {
	s := catalog.New()
	hold(t, s, newModel())
	for i, name := range systemNames {
		x, ok := s.Table(name)
		if !ok || x == nil || x.Len() != 0 || x.Last() != 0 || !sameDesc(x.Desc(), schema.System()[i]) {
			t.Errorf("Table(%q) = %v, %v", name, x, ok)
		}
	}
	for _, name := range []string{"", "t", "Systables", "systables ", "\xff\x00"} {
		if x, ok := s.Table(name); ok || x != nil {
			t.Errorf("Table(%q) = %v, %v", name, x, ok)
		}
	}
	if list, dump := s.Tables(), s.Dump(); len(list) != 0 || len(dump) != 0 {
		t.Errorf("%v, %v", list, dump)
	}
}

// TestP20_1Apart holds that what is done to one store isn't seen in another.
func TestP20_1Apart(t *testing.T) {
	a, b := begin(t), catalog.New()
	hold(t, b, newModel())
	done(t, b)(b.Make(pairs("t")))
	if got := rowsOf(t, b, "t"); got != "" || len(a.Tables()) != 2 || len(b.Tables()) != 1 {
		t.Errorf("%s, %v", got, b.Tables())
	}
}

// TestP20_1Names holds the tables' order: by the bytes of their names.
func TestP20_1Names(t *testing.T) {
	s := catalog.New()
	names := []string{"b", "a1", "a_", "ab", "a", "sysindexes2", "zz", "sys", "_", strings.Repeat("c", api.MaxName)}
	for i, name := range names {
		done(t, s)(s.Make(pairs(name)))
		done(t, s)(s.Apply(name, []api.Change{add(int64(i), name), add(7, "")}))
		done(t, s)(s.Apply(name, []api.Change{del(1), add(8, "z")}))
	}
	slices.Sort(names)
	list, dump := s.Tables(), s.Dump()
	if len(list) != len(names) || len(dump) != len(names) {
		t.Fatalf("%v, %v", list, dump)
	}
	for i, name := range names {
		if list[i].Name != name || !sameDesc(list[i], dump[i].Table) || !sameDesc(list[i], pairs(name)) {
			t.Errorf("%d: %v, %v, not %s", i, list[i], dump[i], name)
		}
		if got := fmt.Sprint(dump[i].Rows); got != "[[{2 7 } {4 0 }] [{2 8 } {4 0 z}]]" {
			t.Errorf("%s: %s", name, got)
		}
	}
}

// TestP20_1Table holds that Table gives the table itself, as it is then.
func TestP20_1Table(t *testing.T) {
	s := begin(t)
	x, ok := s.Table("t")
	done(t, s)(s.Apply("t", []api.Change{add(3, "z")}))
	if y, same := s.Table("t"); !ok || !same || x != y || x.Len() != 3 {
		t.Errorf("%v, %v, %v", x, y, x.Len())
	}
	done(t, s)(s.Drop("t"))
	if x, ok := s.Table("t"); ok || x != nil {
		t.Errorf("%v, %v", x, ok)
	}
}

// refused is a call that is to answer an error.
type refused struct {
	call func(s *catalog.Store) (*catalog.Undo, api.Errno)
	code api.Errno
}

// hold holds that the call answers its error, and changes nothing.
func (c refused) hold(t *testing.T, place int, s *catalog.Store) {
	t.Helper()
	before := picture(s)
	if u, code := c.call(s); u != nil || code != c.code {
		t.Errorf("%d: %v, %d, not %d", place, u, code, c.code)
	}
	if after := picture(s); after != before || !s.Sound() {
		t.Errorf("%d: changed\n%sto\n%s", place, before, after)
	}
}

func apply(name string, code api.Errno, list ...api.Change) refused {
	return refused{func(s *catalog.Store) (*catalog.Undo, api.Errno) { return s.Apply(name, list) }, code}
}

func makes(x api.Table, code api.Errno) refused {
	return refused{func(s *catalog.Store) (*catalog.Undo, api.Errno) { return s.Make(x) }, code}
}

func drops(name string, code api.Errno) refused {
	return refused{func(s *catalog.Store) (*catalog.Undo, api.Errno) { return s.Drop(name) }, code}
}

func addsIndex(name string, x api.Index, code api.Errno) refused {
	return refused{func(s *catalog.Store) (*catalog.Undo, api.Errno) { return s.AddIndex(name, x) }, code}
}

func dropsIndex(name string, code api.Errno) refused {
	return refused{func(s *catalog.Store) (*catalog.Undo, api.Errno) { return s.DropIndex(name) }, code}
}

// TestP20_2Refused goes through wrong calls, with each pair of faults that one call can have.
func TestP20_2Refused(t *testing.T) {
	s := begin(t)
	done(t, s)(s.Apply("u", []api.Change{add(1, "x"), add(1, "y")}))
	short := api.Change{Row: []api.Value{whole(1)}}
	for place, c := range []refused{
		apply("v", api.ErrTable), apply("", api.ErrTable, del(1)), apply("T", api.ErrTable, short), apply("t\x00", api.ErrTable),
		apply("systables", api.ErrSystem), apply("syscolumns", api.ErrSystem, del(1)), apply("sysindexes", api.ErrSystem, short),
		apply("t", api.ErrArg, del(3)), apply("t", api.ErrArg, api.Change{Del: true}), apply("t", api.ErrArg, api.Change{Id: -1}), apply("t", api.ErrArg, del(1), set(1, 5, "")),
		apply("t", api.ErrArity, short), apply("t", api.ErrNull, api.Change{Row: make([]api.Value, 2)}), apply("t", api.ErrType, api.Change{Row: []api.Value{text(""), text("")}}),
		apply("t", api.ErrUnique, add(9, ""), add(2, "z")), apply("t", api.ErrUnique, set(1, 2, "x")), apply("t", api.ErrArity, add(1, ""), short),

		makes(api.Table{}, api.ErrName), makes(pairs("select"), api.ErrName), makes(pairs("T"), api.ErrName),
		makes(api.Table{Name: "t"}, api.ErrMany), makes(api.Table{Name: "systables"}, api.ErrMany), makes(api.Table{Name: "v", Cols: make([]api.Column, 17)}, api.ErrMany),
		makes(pairs("t", index("i", 2)), api.ErrColumn), makes(pairs("v", index("j")), api.ErrMany), makes(pairs("v", index("i", 0), index("k", 1, 1)), api.ErrExists),
		makes(pairs("t"), api.ErrExists), makes(pairs("t", index("x", 0)), api.ErrExists), makes(pairs("u", index("i", 0)), api.ErrExists),
		makes(pairs("systables"), api.ErrExists), makes(pairs("syscolumns", index("x", 0)), api.ErrExists), makes(schema.System()[2], api.ErrExists),
		makes(pairs("v", index("i", 0)), api.ErrExists), makes(pairs("v", index("x", 0), index("k", 0)), api.ErrExists), makes(pairs("v", index("x", 0), index("x", 1)), api.ErrExists),

		drops("v", api.ErrTable), drops("", api.ErrTable), drops("i", api.ErrTable), drops("T", api.ErrTable),
		drops("systables", api.ErrSystem), drops("syscolumns", api.ErrSystem), drops("sysindexes", api.ErrSystem),

		addsIndex("v", index("x", 0), api.ErrTable), addsIndex("", index("i"), api.ErrTable), addsIndex("v", api.Index{}, api.ErrTable),
		addsIndex("systables", index("x", 0), api.ErrSystem), addsIndex("syscolumns", index("i", 0), api.ErrSystem), addsIndex("sysindexes", api.Index{}, api.ErrSystem),
		addsIndex("t", index("i", 0), api.ErrExists), addsIndex("t", index("i"), api.ErrExists), addsIndex("u", index("j", 7), api.ErrExists), addsIndex("t", index("k", 1), api.ErrExists),
		addsIndex("t", api.Index{}, api.ErrName), addsIndex("t", index("table", 9), api.ErrName), addsIndex("t", index("I", 0), api.ErrName),
		addsIndex("t", index("x"), api.ErrMany), addsIndex("t", index("x", 0, 1, 0, 1, 0), api.ErrMany), addsIndex("t", index("x", 2), api.ErrColumn), addsIndex("t", index("x", -1), api.ErrColumn),
		addsIndex("t", index("x", 1, 1), api.ErrExists), addsIndex("u", unique("x", 0), api.ErrUnique),

		dropsIndex("x", api.ErrIndex), dropsIndex("", api.ErrIndex), dropsIndex("t", api.ErrIndex), dropsIndex("systables", api.ErrIndex), dropsIndex("I", api.ErrIndex),
	} {
		c.hold(t, place, s)
	}
}

// TestP20_2Many holds the greatest number of indexes of a table.
func TestP20_2Many(t *testing.T) {
	s := begin(t)
	for _, name := range []string{"a", "b", "c", "d", "e", "f"} {
		done(t, s)(s.AddIndex("t", index(name, 0)))
	}
	addsIndex("t", index("x", 0), api.ErrMany).hold(t, 0, s)
	addsIndex("t", index("k", 0), api.ErrExists).hold(t, 1, s)
	done(t, s)(s.DropIndex("c"))
	done(t, s)(s.AddIndex("t", index("x", 0)))
	if got := indexesOf(t, s, "t"); got != "ijabdefx" {
		t.Errorf("%s", got)
	}
}

// TestP20_2Done holds what the calls do.
func TestP20_2Done(t *testing.T) {
	s := begin(t)
	ok := done(t, s)
	ok(s.Apply("t", nil))
	ok(s.Apply("t", []api.Change{set(1, 2, "x"), set(2, 1, "y"), add(3, "z")}))
	if got := rowsOf(t, s, "t"); got != "1:[{2 2 } {4 0 x}] 2:[{2 1 } {4 0 y}] 3:[{2 3 } {4 0 z}]" {
		t.Errorf("%s", got)
	}
	ok(s.AddIndex("t", unique("l", 1)))
	ok(s.DropIndex("i"))
	ok(s.AddIndex("u", index("i", 0)))
	if a, b := indexesOf(t, s, "t"), indexesOf(t, s, "u"); a != "jl" || b != "ki" {
		t.Errorf("%s, %s", a, b)
	}
	ok(s.Drop("t"))
	ok(s.Make(pairs("v", index("l", 0), index("j", 1))))
	ok(s.Make(api.Table{Name: "t", Cols: []api.Column{{Name: "z", Type: api.Real}}}))
	if got, want := rowsOf(t, s, "t"), indexesOf(t, s, "t"); got != "" || want != "" {
		t.Errorf("%s, %s", got, want)
	}
	u := ok(s.Apply("t", []api.Change{{Row: []api.Value{{}}}}))
	if got := rowsOf(t, s, "t"); u == nil || got != "1:[{0 0 }]" {
		t.Errorf("a new table begins with row 1: %s", got)
	}
}

func TestP20_3Example(t *testing.T) {
	s := catalog.New()
	ok := done(t, s)
	ok(s.Make(api.Table{Name: "t", Cols: []api.Column{{Name: "a", Type: api.Int}}}))
	ok(s.AddIndex("t", index("i", 0)))
	ok(s.Apply("t", []api.Change{{Row: []api.Value{whole(5)}}}))
	if got := rowsOf(t, s, "sysindexes"); got != "1:[{4 0 i} {4 0 t} {1 0 } {4 0 a}]" {
		t.Errorf("%s", got)
	}
	before := picture(s)
	u := ok(s.Drop("t"))
	for _, name := range systemNames {
		if got := rowsOf(t, s, name); got != "" {
			t.Errorf("%s: %s", name, got)
		}
	}
	if u.Back(); picture(s) != before || rowsOf(t, s, "t") != "1:[{2 5 }]" || !s.Sound() {
		t.Errorf("%s, not %s", picture(s), before)
	}
}

// TestP20_3Each undoes each kind of call: all is as it was, the rows of the system tables under their numbers too.
func TestP20_3Each(t *testing.T) {
	for place, call := range []func(s *catalog.Store) (*catalog.Undo, api.Errno){
		func(s *catalog.Store) (*catalog.Undo, api.Errno) { return s.Apply("t", nil) },
		func(s *catalog.Store) (*catalog.Undo, api.Errno) {
			return s.Apply("t", []api.Change{set(1, 2, "q"), del(2), add(5, ""), add(6, "x")})
		},
		func(s *catalog.Store) (*catalog.Undo, api.Errno) {
			return s.Make(pairs("s", unique("x", 0), index("y", 1)))
		},
		func(s *catalog.Store) (*catalog.Undo, api.Errno) { return s.Drop("t") },
		func(s *catalog.Store) (*catalog.Undo, api.Errno) { return s.Drop("u") },
		func(s *catalog.Store) (*catalog.Undo, api.Errno) { return s.AddIndex("t", unique("x", 1)) },
		func(s *catalog.Store) (*catalog.Undo, api.Errno) { return s.DropIndex("i") },
		func(s *catalog.Store) (*catalog.Undo, api.Errno) { return s.DropIndex("j") },
		func(s *catalog.Store) (*catalog.Undo, api.Errno) { return s.DropIndex("k") },
	} {
		s := begin(t)
		before := picture(s)
		u := done(t, s)(call(s))
		if picture(s) == before && place > 0 {
			t.Errorf("%d: nothing done", place)
		}
		if u.Back(); picture(s) != before || !s.Sound() {
			t.Errorf("%d:\n%snot\n%s", place, picture(s), before)
		}
	}
}

// TestP20_3Numbers holds that numbers that were given aren't given again.
func TestP20_3Numbers(t *testing.T) {
	s := begin(t)
	ok := done(t, s)
	ok(s.Apply("t", []api.Change{add(3, ""), add(4, "")})).Back()
	ok(s.Apply("t", []api.Change{add(5, "")}))
	u := ok(s.Drop("t"))
	ok(s.Make(pairs("t"))).Back()
	u.Back()
	ok(s.Apply("t", []api.Change{del(5), add(6, "")}))
	if got := rowsOf(t, s, "t"); got != "1:[{2 1 } {4 0 x}] 2:[{2 2 } {4 0 y}] 6:[{2 6 } {4 0 }]" {
		t.Errorf("%s", got)
	}
}

// TestP20_3Places holds that an index comes back at its place, whichever of three it was.
func TestP20_3Places(t *testing.T) {
	for _, name := range []string{"i", "j", "l"} {
		s := begin(t)
		ok := done(t, s)
		ok(s.AddIndex("t", index("l", 0, 1)))
		u := ok(s.DropIndex(name))
		ok(s.Apply("u", []api.Change{add(9, "")}))
		ok(s.AddIndex("u", unique("x", 1)))
		if u.Back(); indexesOf(t, s, "t") != "ijl" || indexesOf(t, s, "u") != "kx" || !s.Sound() {
			t.Errorf("%s: %s, %s", name, indexesOf(t, s, "t"), indexesOf(t, s, "u"))
		}
	}
}

// TestP20_3Others undoes calls while others did something elsewhere meanwhile.
func TestP20_3Others(t *testing.T) {
	s := begin(t)
	ok := done(t, s)
	first := ok(s.Apply("t", []api.Change{set(1, 7, "x"), add(3, "c")}))
	second := ok(s.Apply("t", []api.Change{del(2), add(4, "d")}))
	dropped := ok(s.Drop("u"))
	ok(s.Make(pairs("v", index("x", 0))))
	if first.Back(); rowsOf(t, s, "t") != "1:[{2 1 } {4 0 x}] 4:[{2 4 } {4 0 d}]" || !s.Sound() {
		t.Errorf("%s", rowsOf(t, s, "t"))
	}
	if dropped.Back(); indexesOf(t, s, "u") != "k" || indexesOf(t, s, "v") != "x" || !s.Sound() {
		t.Errorf("%s, %s", indexesOf(t, s, "u"), indexesOf(t, s, "v"))
	}
	if second.Back(); rowsOf(t, s, "t") != "1:[{2 1 } {4 0 x}] 2:[{2 2 } {4 0 y}]" || !s.Sound() {
		t.Errorf("%s", rowsOf(t, s, "t"))
	}
}

// TestP20_3Returned undoes calls where what they touched was changed, and brought back to what it was by further calls.
func TestP20_3Returned(t *testing.T) {
	for place, c := range []struct {
		call    func(s *catalog.Store) (*catalog.Undo, api.Errno)
		between func(s *catalog.Store, ok func(*catalog.Undo, api.Errno) *catalog.Undo)
	}{
		{func(s *catalog.Store) (*catalog.Undo, api.Errno) { return s.DropIndex("j") }, func(s *catalog.Store, ok func(*catalog.Undo, api.Errno) *catalog.Undo) {
			ok(s.DropIndex("i"))
			ok(s.AddIndex("t", unique("i", 0)))
		}},
		{func(s *catalog.Store) (*catalog.Undo, api.Errno) { return s.DropIndex("i") }, func(s *catalog.Store, ok func(*catalog.Undo, api.Errno) *catalog.Undo) {
			ok(s.AddIndex("u", index("i", 0)))
			ok(s.DropIndex("i"))
		}},
		{func(s *catalog.Store) (*catalog.Undo, api.Errno) { return s.AddIndex("t", index("x", 0)) }, func(s *catalog.Store, ok func(*catalog.Undo, api.Errno) *catalog.Undo) {
			ok(s.DropIndex("x"))
			ok(s.AddIndex("t", index("x", 0)))
		}},
		{func(s *catalog.Store) (*catalog.Undo, api.Errno) {
			return s.Make(pairs("v", index("x", 0), index("y", 1)))
		}, func(s *catalog.Store, ok func(*catalog.Undo, api.Errno) *catalog.Undo) {
			ok(s.Drop("v"))
			ok(s.Make(pairs("v", index("x", 0))))
			ok(s.AddIndex("v", index("y", 1)))
			ok(s.Apply("v", []api.Change{add(1, "")}))
			ok(s.Apply("v", []api.Change{del(1)}))
		}},
		{func(s *catalog.Store) (*catalog.Undo, api.Errno) { return s.Drop("t") }, func(s *catalog.Store, ok func(*catalog.Undo, api.Errno) *catalog.Undo) {
			ok(s.Make(pairs("t", index("j", 0))))
			ok(s.Drop("t"))
		}},
		{func(s *catalog.Store) (*catalog.Undo, api.Errno) { return s.Apply("t", []api.Change{set(1, 5, "x")}) }, func(s *catalog.Store, ok func(*catalog.Undo, api.Errno) *catalog.Undo) {
			ok(s.Apply("t", []api.Change{set(1, 6, "x")}))
			ok(s.Apply("t", []api.Change{set(1, 5, "x")}))
			ok(s.Drop("t")).Back()
			ok(s.DropIndex("i"))
			ok(s.DropIndex("j"))
			ok(s.AddIndex("t", unique("i", 0)))
			ok(s.AddIndex("t", index("j", 1, 0)))
		}},
	} {
		s := begin(t)
		ok := done(t, s)
		dump := fmt.Sprint(s.Dump())
		u := ok(c.call(s))
		c.between(s, ok)
		if u.Back(); fmt.Sprint(s.Dump()) != dump || !s.Sound() {
			t.Errorf("%d: %v, not %s", place, s.Dump(), dump)
		}
		told(t, s, s.Tables())
	}
}

// TestP20_3Alike brings back a unique index in which two rows were alike already.
func TestP20_3Alike(t *testing.T) {
	s := begin(t)
	ok := done(t, s)
	gone := ok(s.Apply("t", []api.Change{del(1)}))
	ok(s.Apply("t", []api.Change{add(1, "new")}))
	gone.Back()
	before := picture(s)
	for _, name := range []string{"i", "j"} {
		u := ok(s.DropIndex(name))
		if u.Back(); picture(s) != before || !s.Sound() {
			t.Errorf("%s:\n%snot\n%s", name, picture(s), before)
		}
	}
	x, _ := s.Table("t")
	if got := x.Last(); got != 3 || x.Check(nil) != api.ErrUnique {
		t.Errorf("Last = %d", got)
	}
	addsIndex("t", unique("x", 0), api.ErrUnique).hold(t, 0, s)
}

// TestP20_4Told holds the system tables' rows, as they come and go.
func TestP20_4Told(t *testing.T) {
	s := begin(t)
	ok := done(t, s)
	if got := rowsOf(t, s, "systables"); got != "1:[{4 0 t}] 2:[{4 0 u}]" {
		t.Errorf("%s", got)
	}
	if got := rowsOf(t, s, "syscolumns"); got != "1:[{4 0 t} {2 0 } {4 0 a} {4 0 INT} {1 0 }] 2:[{4 0 t} {2 1 } {4 0 b} {4 0 TEXT} {1 1 }] 3:[{4 0 u} {2 0 } {4 0 a} {4 0 INT} {1 0 }] 4:[{4 0 u} {2 1 } {4 0 b} {4 0 TEXT} {1 1 }]" {
		t.Errorf("%s", got)
	}
	if got := rowsOf(t, s, "sysindexes"); got != "1:[{4 0 i} {4 0 t} {1 1 } {4 0 a}] 2:[{4 0 j} {4 0 t} {1 0 } {4 0 b,a}] 3:[{4 0 k} {4 0 u} {1 0 } {4 0 b}]" {
		t.Errorf("%s", got)
	}
	ok(s.DropIndex("i"))
	ok(s.AddIndex("t", unique("i", 1)))
	ok(s.Apply("t", []api.Change{add(1, "z")}))
	told(t, s, []api.Table{pairs("t", index("j", 1, 0), unique("i", 1)), pairs("u", index("k", 1))})
	ok(s.Drop("t"))
	told(t, s, []api.Table{pairs("u", index("k", 1))})
}

// TestP20_4NotSound breaks stores through the tables that they give: Sound must tell it.
func TestP20_4NotSound(t *testing.T) {
	sys := func(name string, list ...api.Change) func(s *catalog.Store) {
		return func(s *catalog.Store) {
			x, _ := s.Table(name)
			if _, code := x.Apply(list); code != api.OK {
				t.Errorf("%s: %d", name, code)
			}
		}
	}
	at := func(name string, do func(x *table.Table)) func(s *catalog.Store) {
		return func(s *catalog.Store) { x, _ := s.Table(name); do(x) }
	}
	columns, desc := schema.ColumnRows(pairs("t")), pairs("t", unique("i", 0), index("j", 1, 0))
	far := schema.ColumnRows(pairs("far"))
	kinds := slices.Clone(columns[1])
	kinds[3] = text("BOOL")
	for name, harm := range map[string]func(s *catalog.Store){
		"a table isn't told":           sys("systables", del(1)),
		"a table is told twice":        sys("systables", api.Change{Row: schema.TableRow(pairs("t"))}),
		"a table is told that isn't":   sys("systables", api.Change{Row: schema.TableRow(pairs("far"))}),
		"a table is told for another":  sys("systables", api.Change{Id: 1, Row: schema.TableRow(pairs("u"))}),
		"a column isn't told":          sys("syscolumns", del(2)),
		"a column is told twice":       sys("syscolumns", api.Change{Row: columns[1]}),
		"a column is told of no table": sys("syscolumns", api.Change{Row: far[0]}),
		"a column has another type":    sys("syscolumns", api.Change{Id: 2, Row: kinds}),
		"two columns stand crosswise":  sys("syscolumns", api.Change{Id: 1, Row: schema.ColumnRows(api.Table{Name: "t", Cols: []api.Column{desc.Cols[1], desc.Cols[0]}})[0]}, api.Change{Id: 2, Row: schema.ColumnRows(api.Table{Name: "t", Cols: []api.Column{desc.Cols[1], desc.Cols[0]}})[1]}),
		"an index isn't told":          sys("sysindexes", del(1)),
		"an index is told that isn't":  sys("sysindexes", api.Change{Row: schema.IndexRow(pairs("t", index("x", 0)), 0)}),
		"an index is told of no table": sys("sysindexes", api.Change{Row: schema.IndexRow(pairs("far", index("x", 0)), 0)}),
		"an index is told not unique":  sys("sysindexes", api.Change{Id: 1, Row: schema.IndexRow(pairs("t", index("i", 0)), 0)}),
		"an index has another column":  sys("sysindexes", api.Change{Id: 1, Row: schema.IndexRow(pairs("t", unique("i", 1)), 0)}),
		"indexes stand out of order":   sys("sysindexes", api.Change{Id: 1, Row: schema.IndexRow(desc, 1)}, api.Change{Id: 2, Row: schema.IndexRow(desc, 0)}),
		"an index went untold":         at("t", func(x *table.Table) { x.DropIndex("i") }),
		"an index came untold":         at("t", func(x *table.Table) { x.AddIndex(index("x", 0)) }),
		"an index lacks a row": func(s *catalog.Store) {
			x, _ := s.Table("t")
			// Such a copy knows the same rows, but not the index that comes.
			other := *x
			done(t, s)(s.AddIndex("t", index("x", 0)))
			other.Apply([]api.Change{add(9, "z")})
		},
		"two indexes' names are alike": func(s *catalog.Store) {
			at("u", func(x *table.Table) { x.AddIndex(index("i", 0)) })(s)
			sys("sysindexes", api.Change{Row: schema.IndexRow(pairs("u", index("i", 0)), 0)})(s)
		},
		"a name of a system table's is": at("systables", func(x *table.Table) { x.AddIndex(index("i", 0)) }),
	} {
		s := begin(t)
		if harm(s); s.Sound() {
			t.Errorf("%s, and it is sound", name)
		}
	}
}

// TestP20_4Sound changes tables that a store gives, so that it stays sound.
func TestP20_4Sound(t *testing.T) {
	s := begin(t)
	x, _ := s.Table("t")
	if _, code := x.Apply([]api.Change{add(9, "z"), del(1)}); code != api.OK || !s.Sound() {
		t.Errorf("%d, %v", code, s.Sound())
	}
	columns, _ := s.Table("syscolumns")
	first, _ := columns.Row(1)
	if _, code := columns.Apply([]api.Change{del(1), {Row: first}}); code != api.OK || !s.Sound() {
		t.Errorf("%d, %v", code, s.Sound())
	}
}
