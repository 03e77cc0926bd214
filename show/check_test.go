package show_test

import (
	"math"
	"slices"
	"strings"
	"testing"

	"hasp/api"
	"hasp/parse"
	"hasp/show"
)

// none is the expression that isn't there.
var none = api.Expr{}

func whole(n int64) api.Expr { return api.Expr{Op: api.OpConst, Kind: api.Int, Num: n} }

func point(n int64, scale int) api.Expr {
	return api.Expr{Op: api.OpConst, Kind: api.Real, Num: n, Scale: scale}
}

func text(s string) api.Expr { return api.Expr{Op: api.OpConst, Kind: api.Text, Text: s} }

func null() api.Expr { return api.Expr{Op: api.OpConst, Kind: api.Null} }

func truth(n int64) api.Expr { return api.Expr{Op: api.OpConst, Kind: api.Bool, Num: n} }

func col(name string) api.Expr { return api.Expr{Op: api.OpColumn, Text: name} }

func of(qual, name string) api.Expr { return api.Expr{Op: api.OpColumn, Qual: qual, Text: name} }

func op(n int, args ...api.Expr) api.Expr { return api.Expr{Op: n, Args: args} }

// where gives a statement with an expression.
func where(e api.Expr) api.Stmt { return api.Stmt{Kind: api.StDelete, Table: "t", Where: e} }

// some gives so many of an element.
func some[T any](n int, element T) []T { return slices.Repeat([]T{element}, n) }

// The fields of a statement, each with a value that is right.
var fields = []struct {
	name  string
	put   func(st, from *api.Stmt)
	value api.Stmt
}{
	{"Table", func(st, from *api.Stmt) { st.Table = from.Table }, api.Stmt{Table: "t"}},
	{"Index", func(st, from *api.Stmt) { st.Index = from.Index }, api.Stmt{Index: "i"}},
	{"Cols", func(st, from *api.Stmt) { st.Cols = from.Cols }, api.Stmt{Cols: []api.Column{{Name: "a", Type: api.Int}}}},
	{"Names", func(st, from *api.Stmt) { st.Names = from.Names }, api.Stmt{Names: []string{"a"}}},
	{"Unique", func(st, from *api.Stmt) { st.Unique = from.Unique }, api.Stmt{Unique: true}},
	{"Rows", func(st, from *api.Stmt) { st.Rows = from.Rows }, api.Stmt{Rows: [][]api.Expr{{{Op: api.OpConst}}}}},
	{"Items", func(st, from *api.Stmt) { st.Items = from.Items }, api.Stmt{Items: []api.Item{{E: api.Expr{Op: api.OpConst}}}}},
	{"From", func(st, from *api.Stmt) { st.From = from.From }, api.Stmt{From: []api.Source{{Table: "t"}}}},
	{"Where", func(st, from *api.Stmt) { st.Where = from.Where }, api.Stmt{Where: api.Expr{Op: api.OpConst}}},
	{"Order", func(st, from *api.Stmt) { st.Order = from.Order }, api.Stmt{Order: []api.Sort{{E: api.Expr{Op: api.OpConst}}}}},
	{"Sets", func(st, from *api.Stmt) { st.Sets = from.Sets }, api.Stmt{Sets: []api.Set{{Col: "a", E: api.Expr{Op: api.OpConst}}}}},
}

// The fields that a kind must have, and those that it may have.
var must = map[int]string{
	api.StCreateTable: "Table Cols", api.StDropTable: "Table", api.StCreateIndex: "Index Table Names", api.StDropIndex: "Index",
	api.StInsert: "Table Rows", api.StSelect: "From", api.StUpdate: "Table Sets", api.StDelete: "Table", api.StBegin: "", api.StCommit: "", api.StRollback: "",
}

var may = map[int]string{
	api.StCreateIndex: "Unique", api.StSelect: "Items Where Order", api.StUpdate: "Where", api.StDelete: "Where",
}

// is looks whether Check answers this, and Show the same where there is an error.
func is(t *testing.T, what string, st api.Stmt, want api.Errno) {
	t.Helper()
	if code := show.Check(st); code != want {
		t.Errorf("%s: Check: %d, not %d", what, code, want)
	}
	s, code := show.Show(st)
	if want != api.OK && (s != "" || code != want) {
		t.Errorf("%s: Show: %q, %d, not %d", what, s, code, want)
	}
	if want == api.OK && code != api.OK && code != api.ErrLong {
		t.Errorf("%s: Show: %d", what, code)
	}
}

// base gives a statement of a kind that has what it must have.
func base(kind int) api.Stmt {
	st := api.Stmt{Kind: kind}
	for _, f := range fields {
		if slices.Contains(strings.Fields(must[kind]), f.name) {
			f.put(&st, &f.value)
		}
	}
	return st
}

func TestP14_1Fields(t *testing.T) {
	for kind := range must {
		is(t, "base", base(kind), api.OK)
		for _, f := range fields {
			with, without := base(kind), base(kind)
			f.put(&with, &f.value)
			f.put(&without, &api.Stmt{})
			needed := slices.Contains(strings.Fields(must[kind]), f.name)
			allowed := needed || slices.Contains(strings.Fields(may[kind]), f.name)
			wants := map[bool]api.Errno{true: api.OK, false: api.ErrArg}
			is(t, f.name+" there", with, wants[allowed])
			is(t, f.name+" not there", without, wants[!needed])
		}
	}
	for _, kind := range []int{0, -1, 12, 13, math.MinInt, math.MaxInt} {
		is(t, "no such kind", api.Stmt{Kind: kind}, api.ErrArg)
		is(t, "no such kind", api.Stmt{Kind: kind, Table: "t"}, api.ErrArg)
	}
}

func TestP14_1ListsWithoutElements(t *testing.T) {
	empty := api.Stmt{Cols: []api.Column{}, Names: []string{}, Rows: [][]api.Expr{}, Items: []api.Item{}, From: []api.Source{}, Where: api.Expr{Args: []api.Expr{}}, Order: []api.Sort{}, Sets: []api.Set{}}
	for kind := range must {
		st := empty
		full := base(kind)
		st.Kind = kind
		for _, f := range fields {
			if slices.Contains(strings.Fields(must[kind]), f.name) {
				f.put(&st, &full)
			}
		}
		is(t, "lists without elements", st, api.OK)
	}
	is(t, "an On without operands", api.Stmt{Kind: api.StSelect, From: []api.Source{{Table: "t", On: api.Expr{Args: []api.Expr{}}}}}, api.OK)
	is(t, "a constant without operands", where(api.Expr{Op: api.OpConst, Args: []api.Expr{}}), api.OK)
	is(t, "a column without operands", where(api.Expr{Op: api.OpColumn, Text: "a", Args: []api.Expr{}}), api.OK)
	is(t, "a row without elements", api.Stmt{Kind: api.StInsert, Table: "t", Rows: [][]api.Expr{{}}}, api.ErrArg)
	is(t, "a row that is nil", api.Stmt{Kind: api.StInsert, Table: "t", Rows: [][]api.Expr{nil}}, api.ErrArg)
}

func TestP14_1Counts(t *testing.T) {
	joins := func(n int) []api.Source {
		return append([]api.Source{{Table: "t"}}, some(n-1, api.Source{Table: "u", On: null()})...)
	}
	for _, c := range []struct {
		name string
		most int
		make func(n int) api.Stmt
	}{
		{"columns", 16, func(n int) api.Stmt {
			return api.Stmt{Kind: api.StCreateTable, Table: "t", Cols: some(n, api.Column{Name: "a", Type: api.Int})}
		}},
		{"names", 4, func(n int) api.Stmt {
			return api.Stmt{Kind: api.StCreateIndex, Index: "i", Table: "t", Names: some(n, "a")}
		}},
		{"rows", 50, func(n int) api.Stmt {
			return api.Stmt{Kind: api.StInsert, Table: "t", Rows: some(n, []api.Expr{null()})}
		}},
		{"expressions of a row", 50, func(n int) api.Stmt {
			return api.Stmt{Kind: api.StInsert, Table: "t", Rows: [][]api.Expr{some(n, null())}}
		}},
		{"expressions of a later row", 50, func(n int) api.Stmt {
			return api.Stmt{Kind: api.StInsert, Table: "t", Rows: [][]api.Expr{{null()}, some(n, null())}}
		}},
		{"items", 50, func(n int) api.Stmt {
			return api.Stmt{Kind: api.StSelect, From: joins(1), Items: some(n, api.Item{E: null()})}
		}},
		{"sources", 4, func(n int) api.Stmt { return api.Stmt{Kind: api.StSelect, From: joins(n)} }},
		{"sorts", 50, func(n int) api.Stmt {
			return api.Stmt{Kind: api.StSelect, From: joins(1), Order: some(n, api.Sort{E: null()})}
		}},
		{"settings", 50, func(n int) api.Stmt {
			return api.Stmt{Kind: api.StUpdate, Table: "t", Sets: some(n, api.Set{Col: "a", E: null()})}
		}},
	} {
		is(t, c.name, c.make(1), api.OK)
		is(t, c.name, c.make(c.most), api.OK)
		is(t, c.name+" above", c.make(c.most+1), api.ErrArg)
		is(t, c.name+" far above", c.make(c.most*1000), api.ErrArg)
	}
}

func TestP14_1Names(t *testing.T) {
	places := map[string]func(name string) api.Stmt{
		"create table": func(name string) api.Stmt {
			return api.Stmt{Kind: api.StCreateTable, Table: name, Cols: []api.Column{{Name: "a", Type: api.Int}}}
		},
		"column": func(name string) api.Stmt {
			return api.Stmt{Kind: api.StCreateTable, Table: "t", Cols: []api.Column{{Name: "a", Type: api.Int}, {Name: name, Type: api.Text}}}
		},
		"drop table": func(name string) api.Stmt { return api.Stmt{Kind: api.StDropTable, Table: name} },
		"index": func(name string) api.Stmt {
			return api.Stmt{Kind: api.StCreateIndex, Index: name, Table: "t", Names: some(1, "a")}
		},
		"table of index": func(name string) api.Stmt {
			return api.Stmt{Kind: api.StCreateIndex, Index: "i", Table: name, Names: some(1, "a")}
		},
		"column of index": func(name string) api.Stmt {
			return api.Stmt{Kind: api.StCreateIndex, Index: "i", Table: "t", Names: []string{"a", name}}
		},
		"drop index": func(name string) api.Stmt { return api.Stmt{Kind: api.StDropIndex, Index: name} },
		"insert": func(name string) api.Stmt {
			return api.Stmt{Kind: api.StInsert, Table: name, Rows: [][]api.Expr{{null()}}}
		},
		"source": func(name string) api.Stmt { return api.Stmt{Kind: api.StSelect, From: []api.Source{{Table: name}}} },
		"later source": func(name string) api.Stmt {
			return api.Stmt{Kind: api.StSelect, From: []api.Source{{Table: "t"}, {Table: name, On: null()}}}
		},
		"update": func(name string) api.Stmt {
			return api.Stmt{Kind: api.StUpdate, Table: name, Sets: []api.Set{{Col: "a", E: null()}}}
		},
		"setting": func(name string) api.Stmt {
			return api.Stmt{Kind: api.StUpdate, Table: "t", Sets: []api.Set{{Col: "a", E: null()}, {Col: name, E: null()}}}
		},
		"delete":              func(name string) api.Stmt { return api.Stmt{Kind: api.StDelete, Table: name} },
		"column's name":       func(name string) api.Stmt { return where(col(name)) },
		"name behind a point": func(name string) api.Stmt { return where(of("t", name)) },
		"?alias": func(name string) api.Stmt {
			return api.Stmt{Kind: api.StSelect, From: []api.Source{{Table: "t", Alias: name}}}
		},
		"?later alias": func(name string) api.Stmt {
			return api.Stmt{Kind: api.StSelect, From: []api.Source{{Table: "t"}, {Table: "t", Alias: name, On: null()}}}
		},
		"?item": func(name string) api.Stmt {
			return api.Stmt{Kind: api.StSelect, Items: []api.Item{{E: null()}, {E: null(), Name: name}}, From: []api.Source{{Table: "t"}}}
		},
		"?name ahead of a point": func(name string) api.Stmt { return where(of(name, "a")) },
	}
	for place, make := range places {
		for _, name := range []string{"a", "_", "t1", "asc", "values_", strings.Repeat("z", 32)} {
			is(t, place+" "+name, make(name), api.OK)
		}
		for _, name := range []string{"A", "tA", "1", "1a", " a", "a ", "a.b", "'a'", "*", "ä", "\x00", "where", "Where", "null", "index", strings.Repeat("z", 33), strings.Repeat("z", 100000)} {
			is(t, place+" "+name[:min(40, len(name))], make(name), api.ErrArg)
		}
		empty := api.ErrArg
		if place[0] == '?' {
			empty = api.OK
		}
		is(t, place+" empty", make(""), empty)
	}
}

func TestP14_1Types(t *testing.T) {
	for kind := -1; kind < 7; kind++ {
		want := api.OK
		if kind < api.Bool || kind > api.Text {
			want = api.ErrArg
		}
		is(t, "a column's type", api.Stmt{Kind: api.StCreateTable, Table: "t", Cols: []api.Column{{Name: "a", Type: kind}}}, want)
		is(t, "a later column's type", api.Stmt{Kind: api.StCreateTable, Table: "t", Cols: []api.Column{{Name: "a", Type: api.Int}, {Name: "a", Type: kind, Required: true}}}, want)
	}
}

func TestP14_1Constants(t *testing.T) {
	const long = 999999999999999
	k := func(kind int, num int64, scale int, s string) api.Expr {
		return api.Expr{Op: api.OpConst, Kind: kind, Num: num, Scale: scale, Text: s}
	}
	for _, e := range []api.Expr{
		k(api.Null, 0, 0, ""), k(api.Bool, 0, 0, ""), k(api.Bool, 1, 0, ""),
		k(api.Int, 0, 0, ""), k(api.Int, 1, 0, ""), k(api.Int, math.MaxInt64, 0, ""),
		k(api.Real, 0, api.ScaleNaN, ""), k(api.Real, 0, api.ScaleInf, ""), k(api.Real, 0, 1, ""), k(api.Real, 0, 14, ""), k(api.Real, 5, 7, ""), k(api.Real, long, 1, ""), k(api.Real, long, 14, ""),
		k(api.Text, 0, 0, ""), k(api.Text, 0, 0, "a"), k(api.Text, 0, 0, "\x00\xff'\n"), k(api.Text, 0, 0, strings.Repeat("'", 200)),
	} {
		is(t, "a right constant", where(e), api.OK)
	}
	for _, e := range []api.Expr{
		k(api.Null, 1, 0, ""), k(api.Null, 0, 1, ""), k(api.Null, 0, api.ScaleNaN, ""), k(api.Null, 0, 0, "a"),
		k(api.Bool, 2, 0, ""), k(api.Bool, -1, 0, ""), k(api.Bool, 1, 1, ""), k(api.Bool, 0, -1, ""), k(api.Bool, 1, 0, "a"), k(api.Bool, math.MinInt64, 0, ""),
		k(api.Int, -1, 0, ""), k(api.Int, math.MinInt64, 0, ""), k(api.Int, 1, 1, ""), k(api.Int, 0, api.ScaleInf, ""), k(api.Int, 1, 0, "1"),
		k(api.Real, 0, 0, ""), k(api.Real, 1, 0, ""), k(api.Real, 0, 15, ""), k(api.Real, 1, 15, ""), k(api.Real, 1, math.MaxInt, ""), k(api.Real, 1, math.MinInt, ""), k(api.Real, 0, -3, ""), k(api.Real, 1, api.ScaleNaN, ""), k(api.Real, 1, api.ScaleInf, ""), k(api.Real, -1, api.ScaleInf, ""), k(api.Real, -1, 1, ""), k(api.Real, long+1, 1, ""), k(api.Real, long+1, 14, ""), k(api.Real, math.MaxInt64, 3, ""), k(api.Real, math.MinInt64, 3, ""), k(api.Real, 5, 1, "0.5"), k(api.Real, 0, api.ScaleNaN, "nan"),
		k(api.Text, 1, 0, "a"), k(api.Text, 0, 1, "a"), k(api.Text, 0, -1, ""), k(api.Text, 0, 0, strings.Repeat("a", 201)), k(api.Text, 0, 0, strings.Repeat("'", 201)), k(api.Text, 0, 0, strings.Repeat("a", 100000)),
		k(5, 0, 0, ""), k(-1, 0, 0, ""), k(math.MaxInt, 0, 0, ""), k(math.MinInt, 0, 0, ""),
		{Op: api.OpConst, Kind: api.Int, Num: 1, Qual: "a"}, {Op: api.OpConst, Kind: api.Text, Text: "a", Qual: "a"}, {Op: api.OpConst, Args: some(1, null())}, {Op: api.OpConst, Kind: api.Int, Args: some(1, none)},
	} {
		is(t, "a wrong constant", where(e), api.ErrArg)
		is(t, "a wrong constant within", where(op(api.OpAdd, null(), op(api.OpNeg, e))), api.ErrArg)
	}
}

func TestP14_1Columns(t *testing.T) {
	for _, e := range []api.Expr{
		{Op: api.OpColumn, Text: "a", Kind: 1}, {Op: api.OpColumn, Text: "a", Num: 1}, {Op: api.OpColumn, Text: "a", Num: -1}, {Op: api.OpColumn, Text: "a", Scale: 1}, {Op: api.OpColumn, Text: "a", Scale: -1}, {Op: api.OpColumn, Text: "a", Qual: "t", Kind: -1}, {Op: api.OpColumn, Text: "a", Args: some(1, null())}, {Op: api.OpColumn, Qual: "t"}, {Op: api.OpColumn},
	} {
		is(t, "a wrong column", where(e), api.ErrArg)
	}
}

func TestP14_1Operators(t *testing.T) {
	counts := map[int]int{}
	for n := api.OpEq; n <= api.OpCat; n++ {
		counts[n] = 2
	}
	counts[api.OpAnd], counts[api.OpOr] = 2, 2
	for _, n := range []int{api.OpNeg, api.OpToInt, api.OpToReal, api.OpNot, api.OpIsNull, api.OpNotNull} {
		counts[n] = 1
	}
	for _, n := range []int{math.MinInt, -2, -1, 0, 1, 2, 3, 4, 5, 6, 7, 8, 9, 10, 11, 12, 13, 14, 15, 16, 17, 18, 19, 20, 23, 24, math.MaxInt} {
		for args := range 5 {
			want := api.ErrArg
			if args > 0 && counts[n] == args || n == 0 && args == 0 {
				want = api.OK
			}
			is(t, "operands", where(op(n, some(args, null())...)), want)
			if args == 0 || counts[n] != args {
				continue
			}
			for i := range args {
				wrong := some(args, null())
				wrong[i] = none
				is(t, "an operand that is none", where(op(n, wrong...)), api.ErrArg)
				wrong[i] = whole(-1)
				is(t, "a wrong operand", where(op(n, wrong...)), api.ErrArg)
			}
			args := some(args, col("a"))
			for _, e := range []api.Expr{{Op: n, Args: args, Kind: 1}, {Op: n, Args: args, Kind: -1}, {Op: n, Args: args, Num: 1}, {Op: n, Args: args, Num: -1}, {Op: n, Args: args, Scale: 1}, {Op: n, Args: args, Text: "a"}, {Op: n, Args: args, Qual: "a"}} {
				is(t, "an operator with more", where(e), api.ErrArg)
			}
		}
	}
	for _, e := range []api.Expr{{Kind: 1}, {Num: 1}, {Scale: -1}, {Text: "a"}, {Qual: "a"}, {Args: some(1, null())}, {Args: some(1, none)}} {
		is(t, "no operator, but more", where(e), api.ErrArg)
		is(t, "no operator, but more, of the first source", api.Stmt{Kind: api.StSelect, From: []api.Source{{Table: "t", On: e}}}, api.ErrArg)
	}
}

// spots has the places of expressions.
var spots = map[string]func(e api.Expr) api.Stmt{
	"a row": func(e api.Expr) api.Stmt {
		return api.Stmt{Kind: api.StInsert, Table: "t", Rows: [][]api.Expr{{null(), null()}, {null(), e, null()}}}
	},
	"an item": func(e api.Expr) api.Stmt {
		return api.Stmt{Kind: api.StSelect, Items: []api.Item{{E: null()}, {E: e, Name: "a"}}, From: []api.Source{{Table: "t"}}}
	},
	"a condition of a source": func(e api.Expr) api.Stmt {
		return api.Stmt{Kind: api.StSelect, From: []api.Source{{Table: "t"}, {Table: "t", On: null()}, {Table: "t", On: e}}}
	},
	"a sort": func(e api.Expr) api.Stmt {
		return api.Stmt{Kind: api.StSelect, From: []api.Source{{Table: "t"}}, Order: []api.Sort{{E: null()}, {E: e, Desc: true}}}
	},
	"a setting": func(e api.Expr) api.Stmt {
		return api.Stmt{Kind: api.StUpdate, Table: "t", Sets: []api.Set{{Col: "a", E: null()}, {Col: "a", E: e}}}
	},
	"?WHERE of SELECT": func(e api.Expr) api.Stmt {
		return api.Stmt{Kind: api.StSelect, From: []api.Source{{Table: "t"}}, Where: e}
	},
	"?WHERE of UPDATE": func(e api.Expr) api.Stmt {
		return api.Stmt{Kind: api.StUpdate, Table: "t", Sets: []api.Set{{Col: "a", E: null()}}, Where: e}
	},
	"?WHERE of DELETE": where,
}

// tower puts so many operators in one another.
func tower(n int, e api.Expr) api.Expr {
	for range n {
		e = op(api.OpSub, null(), e)
	}
	return e
}

func TestP14_1Places(t *testing.T) {
	for spot, make := range spots {
		is(t, spot, make(op(api.OpAdd, col("a"), whole(1))), api.OK)
		missing := api.ErrArg
		if spot[0] == '?' {
			missing = api.OK
		}
		is(t, spot, make(none), missing)
		is(t, spot, make(op(api.OpNeg)), api.ErrArg)
		is(t, spot, make(api.Expr{Kind: 1}), api.ErrArg)
		is(t, spot, make(api.Expr{Op: 99}), api.ErrArg)
		is(t, spot, make(whole(-1)), api.ErrArg)
		is(t, spot+" deep", make(tower(40, null())), api.OK)
		is(t, spot+" too deep", make(tower(41, null())), api.ErrDeep)
		is(t, spot+" far too deep", make(tower(50000, col("a"))), api.ErrDeep)
		is(t, spot+" too deep and wrong", make(tower(41, whole(-1))), api.ErrArg)
		is(t, spot+" far too deep and wrong", make(tower(50000, none)), api.ErrArg)
	}
	is(t, "a condition of the first source", api.Stmt{Kind: api.StSelect, From: []api.Source{{Table: "t", On: null()}}}, api.ErrArg)
	is(t, "no condition of a later source", api.Stmt{Kind: api.StSelect, From: []api.Source{{Table: "t"}, {Table: "u"}}}, api.ErrArg)
	is(t, "the second source without a condition", api.Stmt{Kind: api.StSelect, From: []api.Source{{Table: "t"}, {Table: "u"}, {Table: "u", On: null()}}}, api.ErrArg)
	deep := tower(41, null())
	is(t, "deep ahead of wrong", api.Stmt{Kind: api.StUpdate, Table: "t", Sets: []api.Set{{Col: "a", E: deep}, {Col: "A", E: deep}}}, api.ErrArg)
	is(t, "deep and a field too many", api.Stmt{Kind: api.StDelete, Table: "t", Index: "i", Where: deep}, api.ErrArg)
	is(t, "deep at two places", api.Stmt{Kind: api.StInsert, Table: "t", Rows: [][]api.Expr{{null(), deep}, {deep}}}, api.ErrDeep)
}

// TestP14_3Read holds what is read against Check.
func TestP14_3Read(t *testing.T) {
	row := "(" + strings.Repeat("00.50,", 49) + "1)"
	for _, s := range []string{
		"create table t (" + strings.Repeat("a text not null,", 15) + "b bool)", "create unique index i on t(a,a,a,a)", "create index i on t (i)", "drop table t", "drop index _", "begin", "commit", "rollback",
		"insert into t values " + strings.Repeat(row+",", 10) + "(null)", "insert into t values (1)" + strings.Repeat(",(2)", 49),
		"select * from t", "select " + strings.Repeat("1 as a,", 49) + "b from t as x join u on nan join v as y on infinity inner join w on a.b order by " + strings.Repeat("a desc,", 49) + "2",
		"update t set " + strings.Repeat("a='"+"x''x"+"',", 49) + "b=9223372036854775807 where not a", "delete from t where " + strings.Repeat("(", 40) + "a" + strings.Repeat(")", 40), "delete from t where " + strings.Repeat("-", 40) + "0.00000000000000", "delete from t where 99999999999999.9 = 9.99999999999999",
		"delete from t where '" + strings.Repeat("''", 200) + "'",
	} {
		st, code := parse.Parse(s)
		if code != api.OK || show.Check(st) != api.OK {
			t.Errorf("%.100q: %d, %d", s, code, show.Check(st))
		}
	}
}
