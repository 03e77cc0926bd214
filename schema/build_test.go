package schema_test

import (
	"math"
	"math/rand/v2"
	"reflect"
	"slices"
	"strconv"
	"strings"
	"testing"

	"hasp/api"
	"hasp/schema"
)

// column gives a row of syscolumns.
func column(table string, pos int64, name, kind string, required int64) []api.Value {
	return row(text(table), whole(pos), text(name), text(kind), truth(required))
}

// index gives a row of sysindexes.
func index(name, table string, unique int64, cols string) []api.Value {
	return row(text(name), text(table), truth(unique), text(cols))
}

// indexRows gives all rows of sysindexes of a description.
func indexRows(x api.Table) [][]api.Value {
	var list [][]api.Value
	for i := range x.Indexes {
		list = append(list, schema.IndexRow(x, i))
	}
	return list
}

// hold looks whether these rows give a description of t, or an error.
func hold(t *testing.T, what string, columns, indexes [][]api.Value, want api.Table, code api.Errno) {
	t.Helper()
	x, got := schema.Build("t", columns, indexes)
	if got != code || !alike(x, want) {
		t.Errorf("%s: %v, %d, not %v, %d", what, x, got, want, code)
	}
}

// twoColumns gives the rows of the columns a and b of t.
func twoColumns() [][]api.Value {
	return grid(column("t", 0, "a", "INT", 1), column("t", 1, "b", "TEXT", 0))
}

// two gives the description of t with the columns a and b and these indexes.
func two(indexes ...api.Index) api.Table {
	return api.Table{Name: "t", Cols: []api.Column{{Name: "a", Type: api.Int, Required: true}, {Name: "b", Type: api.Text}}, Indexes: indexes}
}

func TestP15_3Build(t *testing.T) {
	i, j := index("i", "t", 1, "b,a"), index("j", "t", 0, "a")
	first, second := api.Index{Name: "i", Cols: []int{1, 0}, Unique: true}, api.Index{Name: "j", Cols: []int{0}}
	hold(t, "no indexes", twoColumns(), nil, two(), api.OK)
	hold(t, "an index", twoColumns(), grid(i), two(first), api.OK)
	hold(t, "two indexes", twoColumns(), grid(i, j), two(first, second), api.OK)
	hold(t, "the other way round", twoColumns(), grid(j, i), two(second, first), api.OK)
	turned := twoColumns()
	slices.Reverse(turned)
	hold(t, "columns the other way round", turned, grid(i), two(first), api.OK)
	// Rows of other tables, with all that would be wrong here.
	others := grid(column("u", 0, "a", "INT", 1), column("u", 0, "a", "INT", 1), column("T", -1, "A", "int", 1), column("", math.MaxInt64, "", "", 0), column("t ", 7, "x", "", 0))
	more := grid(index("i", "u", 1, "b,a"), index("", "T", 0, ""), index("I", "", 1, ",,,,,,"))
	hold(t, "others ahead and behind", slices.Concat(others, twoColumns(), others), slices.Concat(more, grid(i), more, grid(j), more), two(first, second), api.OK)
	hold(t, "others alone", others, more, api.Table{}, api.ErrMany)
	hold(t, "no rows", nil, nil, api.Table{}, api.ErrMany)
	hold(t, "indexes without columns", nil, grid(i), api.Table{}, api.ErrArg)
}

// misfits gives what isn't a row of syscolumns, and what isn't one of sysindexes.
func misfits() (columns, indexes [][]api.Value) {
	long := text(strings.Repeat("x", 201))
	for _, bad := range []api.Value{{}, {Kind: -1}, {Kind: 5}, {Kind: api.Bool, Num: 2}, {Kind: api.Text, Num: 1}, {Kind: api.Int, Text: "x"}, {Kind: api.Real}, long} {
		for i := range 5 {
			r := column("t", 2, "x", "INT", 1)
			r[i] = bad
			columns = append(columns, r)
		}
		for i := range 4 {
			r := index("k", "t", 1, "a")
			r[i] = bad
			indexes = append(indexes, r)
		}
	}
	right := column("t", 2, "x", "INT", 1)
	columns = append(columns, nil, row(), right[:4], append(right, whole(1)), index("k", "t", 1, "a"), row(text("t")), column("u", 0, "a", "INT", 2))
	right = index("k", "t", 1, "a")
	indexes = append(indexes, nil, row(), right[:3], append(right, whole(1)), column("t", 2, "x", "INT", 1), row(text("t")), index("k", "u", 2, "a"))
	return columns, indexes
}

func TestP15_3Kind(t *testing.T) {
	columns, indexes := misfits()
	// What would be wrong beside it comes behind ErrKind.
	wrong, wrongIndexes := grid(column("t", 5, "A", "int", 0)), grid(index("I", "t", 0, "z"))
	for i, r := range columns {
		what := "column " + strconv.Itoa(i)
		hold(t, what, append(twoColumns(), r), nil, api.Table{}, api.ErrKind)
		hold(t, what+" ahead", slices.Concat(grid(r), twoColumns()), nil, api.Table{}, api.ErrKind)
		hold(t, what+" alone", grid(r), nil, api.Table{}, api.ErrKind)
		hold(t, what+" and more", append(slices.Clone(wrong), r), wrongIndexes, api.Table{}, api.ErrKind)
	}
	for i, r := range indexes {
		what := "index " + strconv.Itoa(i)
		hold(t, what, twoColumns(), grid(r), api.Table{}, api.ErrKind)
		hold(t, what+" behind", twoColumns(), grid(index("i", "t", 0, "a"), r), api.Table{}, api.ErrKind)
		hold(t, what+" alone", nil, grid(r), api.Table{}, api.ErrKind)
		hold(t, what+" and more", wrong, append(slices.Clone(wrongIndexes), r), api.Table{}, api.ErrKind)
	}
	if _, code := schema.Build("T", grid(nil), nil); code != api.ErrKind {
		t.Errorf("a name that is none, and no row: %d", code)
	}
}

func TestP15_3Positions(t *testing.T) {
	for _, c := range []struct {
		positions []int64
		code      api.Errno
	}{
		{[]int64{0}, api.OK}, {[]int64{0, 1, 2}, api.OK}, {[]int64{2, 0, 1}, api.OK}, {[]int64{2, 1, 0}, api.OK},
		{[]int64{1}, api.ErrArg}, {[]int64{-1}, api.ErrArg}, {[]int64{0, 0}, api.ErrArg}, {[]int64{1, 1}, api.ErrArg}, {[]int64{0, 2}, api.ErrArg}, {[]int64{1, 2}, api.ErrArg}, {[]int64{0, -1}, api.ErrArg}, {[]int64{0, 1, 1}, api.ErrArg}, {[]int64{0, 1, 3}, api.ErrArg}, {[]int64{2, 2, 0}, api.ErrArg},
		{[]int64{math.MaxInt64}, api.ErrArg}, {[]int64{math.MinInt64}, api.ErrArg}, {[]int64{0, 1 << 32}, api.ErrArg}, {[]int64{1 << 32}, api.ErrArg}, {[]int64{math.MinInt64, math.MaxInt64}, api.ErrArg},
	} {
		want, list := api.Table{Name: "t"}, grid(column("u", 0, "a", "INT", 0))
		for _, pos := range c.positions {
			list = append(list, column("t", pos, "c"+strings.Repeat("_", int(pos&15)), "REAL", pos&1))
		}
		for i := range c.positions {
			want.Cols = append(want.Cols, api.Column{Name: "c" + strings.Repeat("_", i), Type: api.Real, Required: i%2 == 1})
		}
		if c.code != api.OK {
			want = api.Table{}
		}
		hold(t, "positions", list, nil, want, c.code)
	}
}

func TestP15_3Words(t *testing.T) {
	for i, word := range []string{"BOOL", "INT", "REAL", "TEXT"} {
		hold(t, word, grid(column("t", 0, "a", word, 1)), nil, api.Table{Name: "t", Cols: []api.Column{{Name: "a", Type: api.Bool + i, Required: true}}}, api.OK)
		for _, other := range []string{strings.ToLower(word), word + " ", word[1:], word + word, word[:1], word + "\x00"} {
			hold(t, other, grid(column("t", 0, "a", other, 1)), nil, api.Table{}, api.ErrArg)
		}
	}
	for _, other := range []string{"", "NULL", "2", "INTEGER", "DOUBLE", strings.Repeat("T", 200)} {
		hold(t, other, append(twoColumns(), column("t", 2, "c", other, 1)), nil, api.Table{}, api.ErrArg)
	}
}

func TestP15_3IndexColumns(t *testing.T) {
	list := append(twoColumns(), column("t", 2, "ab", "BOOL", 1), column("u", 0, "z", "BOOL", 1))
	for _, c := range []struct {
		cols   string
		places []int
		code   api.Errno
	}{
		{"a", []int{0}, api.OK}, {"b", []int{1}, api.OK}, {"ab", []int{2}, api.OK}, {"ab,a", []int{2, 0}, api.OK}, {"b,ab,a", []int{1, 2, 0}, api.OK},
		{"", nil, api.ErrArg}, {",", nil, api.ErrArg}, {"a,", nil, api.ErrArg}, {",a", nil, api.ErrArg}, {"a,,b", nil, api.ErrArg}, {"a, b", nil, api.ErrArg}, {" a", nil, api.ErrArg}, {"a ", nil, api.ErrArg}, {"a b", nil, api.ErrArg}, {"a;b", nil, api.ErrArg},
		{"A", nil, api.ErrArg}, {"0", nil, api.ErrArg}, {"t", nil, api.ErrArg}, {"z", nil, api.ErrArg}, {"a,z", nil, api.ErrArg}, {"aba", nil, api.ErrArg}, {strings.Repeat(",", 200), nil, api.ErrArg},
		// What is wrong with places that are there is Check's.
		{"a,a", nil, api.ErrExists}, {"a,b,a", nil, api.ErrExists}, {"a,b,ab,a", nil, api.ErrExists}, {"a,b,ab,a,b", nil, api.ErrMany}, {strings.Repeat("a,", 99) + "b", nil, api.ErrMany}, {"a,a,a,a,z", nil, api.ErrArg},
	} {
		want := api.Table{}
		if c.code == api.OK {
			want = two(api.Index{Name: "i", Cols: []int{1}}, api.Index{Name: "k", Cols: c.places, Unique: true})
			want.Cols = append(want.Cols, api.Column{Name: "ab", Type: api.Bool, Required: true})
		}
		hold(t, c.cols, list, grid(index("i", "t", 0, "b"), index("k", "t", 1, c.cols)), want, c.code)
	}
}

// TestP15_3Check has rows that are well, but tell a description that isn't right; and ErrArg stands ahead of that.
func TestP15_3Check(t *testing.T) {
	var seventeen, nine [][]api.Value
	for i := range 17 {
		seventeen = append(seventeen, column("t", int64(i), "c"+strconv.Itoa(i), "INT", 0))
	}
	for i := range 9 {
		nine = append(nine, index("i"+strconv.Itoa(i), "t", 0, "a"))
	}
	hold(t, "17 columns", seventeen, nil, api.Table{}, api.ErrMany)
	hold(t, "9 indexes", twoColumns(), nine, api.Table{}, api.ErrMany)
	hold(t, "a column's name", append(twoColumns(), column("t", 2, "C", "INT", 0)), nil, api.Table{}, api.ErrName)
	hold(t, "a column twice", append(twoColumns(), column("t", 2, "a", "INT", 0)), nil, api.Table{}, api.ErrExists)
	hold(t, "an index's name", twoColumns(), grid(index("", "t", 0, "a")), api.Table{}, api.ErrName)
	hold(t, "an index twice", twoColumns(), grid(index("i", "t", 0, "a"), index("i", "t", 0, "b")), api.Table{}, api.ErrExists)
	hold(t, "an odd name, and an odd type", grid(column("t", 0, "A", "int", 0)), nil, api.Table{}, api.ErrArg)
	hold(t, "an odd name in an index", grid(column("t", 0, "A", "INT", 0)), grid(index("i", "t", 0, "A")), api.Table{}, api.ErrName)
	hold(t, "17 columns, and one more at a place", append(seventeen, column("t", 3, "d", "INT", 0)), nil, api.Table{}, api.ErrArg)
	hold(t, "9 indexes, and an odd one", twoColumns(), append(nine, index("i", "t", 0, "c")), api.Table{}, api.ErrArg)
	for _, name := range []string{"", "T", "order", strings.Repeat("t", 33), strings.Repeat("t", 100000)} {
		if x, code := schema.Build(name, nil, nil); code != api.ErrName || !alike(x, api.Table{}) {
			t.Errorf("Build(%.40q): %v, %d", name, x, code)
		}
		if len(name) < 200 {
			if x, code := schema.Build(name, grid(column(name, 0, "a", "INT", 0)), nil); code != api.ErrName || !alike(x, api.Table{}) {
				t.Errorf("Build(%.40q): %v, %d", name, x, code)
			}
			if _, code := schema.Build(name, grid(column(name, 1, "a", "INT", 0)), nil); code != api.ErrArg {
				t.Errorf("Build(%.40q) of a place that is odd: %d", name, code)
			}
		}
	}
}

// pick gives one of a list, the first one most often.
func pick[T any](r *rand.Rand, list ...T) T {
	if r.IntN(3) > 0 {
		return list[0]
	}
	return list[r.IntN(len(list))]
}

// told gives the description that the rows of t tell, looking for one place after the other.
func told(columns, indexes [][]api.Value) (api.Table, api.Errno) {
	x, of := api.Table{Name: "t"}, 0
	for _, r := range columns {
		if r[0].Text == "t" {
			of++
		}
	}
	for place := range of {
		at := slices.IndexFunc(columns, func(r []api.Value) bool { return r[0].Text == "t" && r[1].Num == int64(place) })
		if at < 0 {
			return api.Table{}, api.ErrArg
		}
		r := columns[at]
		kind := slices.Index([]string{"BOOL", "INT", "REAL", "TEXT"}, r[3].Text)
		if kind < 0 {
			return api.Table{}, api.ErrArg
		}
		x.Cols = append(x.Cols, api.Column{Name: r[2].Text, Type: kind + 1, Required: r[4].Num > 0})
	}
	for _, r := range indexes {
		if r[1].Text != "t" {
			continue
		}
		i := api.Index{Name: r[0].Text, Unique: r[2].Num > 0}
		for rest, more := r[3].Text, true; more; {
			var name string
			name, rest, more = strings.Cut(rest, ",")
			place := slices.IndexFunc(x.Cols, func(c api.Column) bool { return c.Name == name })
			if place < 0 {
				return api.Table{}, api.ErrArg
			}
			i.Cols = append(i.Cols, place)
		}
		x.Indexes = append(x.Indexes, i)
	}
	if code := schema.Check(x); code != api.OK {
		return api.Table{}, code
	}
	return x, api.OK
}

func TestP15_3Random(t *testing.T) {
	r, met := rand.New(rand.NewPCG(15, 3)), map[api.Errno]int{}
	for range 60000 {
		var columns, indexes [][]api.Value
		for i := range r.IntN(5) {
			columns = append(columns, column(pick(r, "t", "t", "u"), pick(r, int64(i), 0, 1, 2, 3, -1), pick(r, "c"+strconv.Itoa(i), "c0", "c1", "C", "c2"), pick(r, "INT", "BOOL", "REAL", "TEXT", "TEXT", "REAL", ""), int64(r.IntN(2))))
		}
		r.Shuffle(len(columns), func(a, b int) { columns[a], columns[b] = columns[b], columns[a] })
		for i := range r.IntN(4) {
			cols := pick(r, "c0", "c1", "c1,c0", "c0,c1,c2", "c2,c2", "C", "")
			indexes = append(indexes, index(pick(r, "i"+strconv.Itoa(i), "i0", "i1", "select"), pick(r, "t", "u", ""), int64(r.IntN(2)), cols))
		}
		want, code := told(columns, indexes)
		met[code]++
		hold(t, "random rows", columns, indexes, want, code)
	}
	for _, code := range []api.Errno{api.OK, api.ErrArg, api.ErrName, api.ErrMany, api.ErrExists} {
		if met[code] < 100 {
			t.Errorf("%d was met %d times", code, met[code])
		}
	}
}

// described gives a right description by chance.
func described(r *rand.Rand, name string) api.Table {
	x := api.Table{Name: name}
	for i := range 1 + r.IntN(16) {
		x.Cols = append(x.Cols, api.Column{Name: "c" + strings.Repeat("_", i), Type: 1 + r.IntN(4), Required: r.IntN(2) == 0})
	}
	for i := range r.IntN(9) {
		places := r.Perm(len(x.Cols))
		x.Indexes = append(x.Indexes, api.Index{Name: name + strconv.Itoa(i), Cols: places[:1+r.IntN(min(4, len(places)))], Unique: r.IntN(2) == 0})
	}
	return x
}

// woven puts the lists' elements between each other, those of one list in their order.
func woven(r *rand.Rand, these ...[][]api.Value) [][]api.Value {
	var list [][]api.Value
	for {
		these = slices.DeleteFunc(these, func(l [][]api.Value) bool { return len(l) == 0 })
		if len(these) == 0 {
			return list
		}
		i := r.IntN(len(these))
		list, these[i] = append(list, these[i][0]), these[i][1:]
	}
}

func TestP15_4Back(t *testing.T) {
	r := rand.New(rand.NewPCG(15, 4))
	for range 2000 {
		x, y, z := described(r, "t"), described(r, "u"), described(r, "t_")
		if schema.Check(x) != api.OK {
			t.Fatalf("%v isn't right", x)
		}
		columns := slices.Concat(schema.ColumnRows(x), schema.ColumnRows(y), schema.ColumnRows(z))
		r.Shuffle(len(columns), func(i, j int) { columns[i], columns[j] = columns[j], columns[i] })
		indexes := woven(r, indexRows(x), indexRows(y), indexRows(z))
		for _, want := range []api.Table{x, y, z} {
			if back, code := schema.Build(want.Name, columns, indexes); code != api.OK || !alike(back, want) {
				t.Fatalf("%v came back as %v, %d", want, back, code)
			}
		}
	}
	for _, x := range append(schema.System(), wide(16, 8, 4), wide(1, 1, 1)) {
		if back, code := schema.Build(x.Name, schema.ColumnRows(x), indexRows(x)); code != api.OK || !alike(back, x) {
			t.Errorf("%v came back as %v, %d", x, back, code)
		}
	}
}

// roomy gives a copy of rows with spare room, in which something stands.
func roomy(list [][]api.Value) [][]api.Value {
	var all [][]api.Value
	for _, r := range list {
		all = append(all, append(slices.Clone(r), text("spare"))[:len(r)])
	}
	return append(all, row(text("spare")))[:len(list)]
}

// opened gives a copy of rows with all that stands in their spare room.
func opened(list [][]api.Value) [][]api.Value {
	var all [][]api.Value
	for _, r := range list[:cap(list)] {
		all = append(all, slices.Clone(r[:cap(r)]))
	}
	return all
}

func TestP15_4NewMemory(t *testing.T) {
	x := sample()
	columns, indexes := roomy(schema.ColumnRows(x)), roomy(indexRows(x))
	slices.Reverse(columns)
	wasColumns, wasIndexes := opened(columns), opened(indexes)
	one, _ := schema.Build("t", columns, indexes)
	two, _ := schema.Build("t", columns, indexes)
	if !same(opened(columns), wasColumns) || !same(opened(indexes), wasIndexes) {
		t.Error("what was handed in has been changed")
	}
	spoil(columns)
	spoil(indexes)
	if !alike(one, x) {
		t.Errorf("%v was written over with what was handed in", one)
	}
	clear(one.Indexes[0].Cols[:cap(one.Indexes[0].Cols)])
	if !slices.Equal(one.Indexes[1].Cols, []int{2}) {
		t.Error("two indexes share memory")
	}
	spoilTable(one)
	if !reflect.DeepEqual(two, x) {
		t.Errorf("two answers share memory: %v", two)
	}
}

// TestP1P2AnyArguments asks of all calls, with wild arguments, that they end, and that they answer the same again.
func TestP1P2AnyArguments(t *testing.T) {
	r := rand.New(rand.NewPCG(15, 1))
	name := func() string {
		return pick(r, "t", "", "a", "a,a", "select", "\xff", strings.Repeat("x", 300), "systables")
	}
	number := func() int { return pick(r, r.IntN(6)-1, math.MinInt, math.MaxInt, 100) }
	values := func() []api.Value {
		list := pick(r, column(name(), int64(number()), name(), pick(r, "INT", name()), 1), index(name(), name(), 0, name()), nil)
		if len(list) > 0 && r.IntN(3) == 0 {
			list[r.IntN(len(list))] = api.Value{Kind: number(), Num: int64(number()), Text: name()}
		}
		return list
	}
	for range 30000 {
		x := api.Table{Name: name()}
		for range r.IntN(4) * r.IntN(7) {
			x.Cols = append(x.Cols, api.Column{Name: name(), Type: number(), Required: r.IntN(2) == 0})
		}
		for range r.IntN(3) * r.IntN(6) {
			var places []int
			for range r.IntN(6) {
				places = append(places, number())
			}
			x.Indexes = append(x.Indexes, api.Index{Name: name(), Cols: places})
		}
		i := number()
		if schema.Check(x) != schema.Check(x) || !slices.Equal(schema.TableRow(x), schema.TableRow(x)) || !same(schema.ColumnRows(x), schema.ColumnRows(x)) || !slices.Equal(schema.IndexRow(x, i), schema.IndexRow(x, i)) {
			t.Fatalf("%v, %d: two answers", x, i)
		}
		var columns, indexes [][]api.Value
		for range r.IntN(4) {
			columns, indexes = append(columns, values()), append(indexes, values())
		}
		one, code := schema.Build(x.Name, columns, indexes)
		two, again := schema.Build(x.Name, columns, indexes)
		if code != again || !alike(one, two) || code != api.OK && !alike(one, api.Table{}) || code == api.OK && schema.Check(one) != api.OK {
			t.Fatalf("Build(%q, %v, %v) = %v, %d, and %v, %d", x.Name, columns, indexes, one, code, two, again)
		}
	}
}

// TestP1Many has far more rows than a table has columns and indexes.
func TestP1Many(t *testing.T) {
	var columns, indexes [][]api.Value
	for i := range 50000 {
		columns = append(columns, column("t", int64(i), "c"+strconv.Itoa(i), "INT", 0))
		indexes = append(indexes, index("i"+strconv.Itoa(i), "t", 0, "c49999,c0"))
	}
	slices.Reverse(columns)
	hold(t, "many rows", columns, indexes, api.Table{}, api.ErrMany)
	hold(t, "many rows, and one more", columns, append(indexes, index("i", "t", 0, "c50000")), api.Table{}, api.ErrArg)
	hold(t, "many rows, and one place twice", append(columns, column("t", 4, "x", "INT", 0)), indexes, api.Table{}, api.ErrArg)
}
