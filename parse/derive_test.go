package parse_test

import (
	"math/rand/v2"
	"reflect"
	"slices"
	"strconv"
	"strings"
	"testing"

	"hasp/api"
	"hasp/lex"
	"hasp/parse"
)

// deriver makes statements at random: their words, and what they are to be read as.
type deriver struct {
	r    *rand.Rand
	most int // elements of a list, and parts of an expression
	deep int // parentheses around what is made
}

func (g *deriver) odds(n int) bool { return g.r.IntN(n) == 0 }

func (g *deriver) name() string {
	return pick(g.r, "a", "b", "t", "u", "x_1", "_", "asc", "names", "selected", strings.Repeat("n", 32))
}

func pick[T any](r *rand.Rand, list ...T) T { return list[r.IntN(len(list))] }

// listed makes a list, with commas between.
func listed[T any](g *deriver, most int, one func() ([]string, T)) ([]string, []T) {
	var words []string
	var all []T
	for i := range 1 + g.r.IntN(min(most, g.most)) {
		if i > 0 {
			words = append(words, ",")
		}
		w, element := one()
		words, all = append(words, w...), append(all, element)
	}
	return words, all
}

// levels has the operators with two operands that any number of can stand in a row, the weakest first.
var levels = []map[string]int{
	{"or": api.OpOr}, {"and": api.OpAnd}, {}, {},
	{"+": api.OpAdd, "-": api.OpSub, "||": api.OpCat},
	{"*": api.OpMul, "/": api.OpDiv, "%": api.OpMod},
}

// some gives one of the operators.
func some(r *rand.Rand, ops map[string]int) (string, int) {
	var words []string
	for w := range ops {
		words = append(words, w)
	}
	slices.Sort(words)
	w := words[r.IntN(len(words))]
	return w, ops[w]
}

// expr makes an expression of a level: 0 to 7, the weakest first.
func (g *deriver) expr(level int) ([]string, api.Expr) {
	switch level {
	case 2:
		if g.odds(4) {
			words, e := g.expr(2)
			return append([]string{"not"}, words...), op(api.OpNot, e)
		}
		return g.expr(3)
	case 3:
		return g.test()
	case 6:
		if g.odds(4) {
			words, e := g.expr(6)
			return append([]string{"-"}, words...), op(api.OpNeg, e)
		}
		return g.one()
	}
	words, e := g.expr(level + 1)
	for g.odds(6) {
		w, n := some(g.r, levels[level])
		next, operand := g.expr(level + 1)
		words, e = append(append(words, w), next...), op(n, e, operand)
	}
	return words, e
}

func (g *deriver) test() ([]string, api.Expr) {
	words, e := g.expr(4)
	switch g.r.IntN(6) {
	case 0:
		w, n := some(g.r, map[string]int{"=": api.OpEq, "<>": api.OpNe, "<": api.OpLt, "<=": api.OpLe, ">": api.OpGt, ">=": api.OpGe})
		next, operand := g.expr(4)
		return append(append(words, w), next...), op(n, e, operand)
	case 1:
		return append(words, "is", "null"), op(api.OpIsNull, e)
	case 2:
		return append(words, "is", "not", "null"), op(api.OpNotNull, e)
	}
	return words, e
}

func (g *deriver) one() ([]string, api.Expr) {
	if g.deep < 3 && g.odds(3) {
		g.deep++
		words, e := g.expr(0)
		g.deep--
		words = append(append([]string{"("}, words...), ")")
		switch g.r.IntN(4) {
		case 0:
			return append([]string{"int"}, words...), op(api.OpToInt, e)
		case 1:
			return append([]string{"real"}, words...), op(api.OpToReal, e)
		}
		return words, e
	}
	switch g.r.IntN(9) {
	case 0:
		return []string{"null"}, null()
	case 1:
		return []string{"true"}, truth(1)
	case 2:
		return []string{"false"}, truth(0)
	case 3:
		return []string{"nan"}, point(0, api.ScaleNaN)
	case 4:
		return []string{"infinity"}, point(0, api.ScaleInf)
	case 5:
		n := g.r.Int64() >> g.r.IntN(63)
		return []string{strconv.FormatInt(n, 10)}, whole(n)
	case 6:
		ahead, behind := g.r.IntN(1000), 100+g.r.IntN(900)
		n, _ := strconv.Atoi(strconv.Itoa(ahead) + strconv.Itoa(behind))
		return []string{strconv.Itoa(ahead) + "." + strconv.Itoa(behind)}, point(int64(n), 3)
	case 7:
		s := pick(g.r, "", "a", "it's", "(", "null", "''", "\xff\n")
		return []string{"'" + strings.ReplaceAll(s, "'", "''") + "'"}, text(s)
	}
	if name := g.name(); g.odds(2) {
		qual := g.name()
		return []string{qual, ".", name}, of(qual, name)
	} else {
		return []string{name}, col(name)
	}
}

func (g *deriver) whole() ([]string, api.Expr) { return g.expr(0) }

// row makes a list of expressions between parentheses.
func (g *deriver) row() ([]string, []api.Expr) {
	words, all := listed(g, 50, g.whole)
	return append(append([]string{"("}, words...), ")"), all
}

func (g *deriver) column() ([]string, api.Column) {
	w, n := some(g.r, map[string]int{"int": api.Int, "real": api.Real, "bool": api.Bool, "text": api.Text})
	name := g.name()
	if g.odds(2) {
		return []string{name, w, "not", "null"}, api.Column{Name: name, Type: n, Required: true}
	}
	return []string{name, w}, api.Column{Name: name, Type: n}
}

// alias makes a name behind AS, or none.
func (g *deriver) alias() ([]string, string) {
	if g.odds(2) {
		return nil, ""
	}
	name := g.name()
	return []string{"as", name}, name
}

func (g *deriver) where() ([]string, api.Expr) {
	if g.odds(2) {
		return nil, none
	}
	words, e := g.whole()
	return append([]string{"where"}, words...), e
}

func (g *deriver) query() ([]string, api.Stmt) {
	st := api.Stmt{Kind: api.StSelect}
	words := []string{"select"}
	if g.odds(4) {
		words = append(words, "*")
	} else {
		var w []string
		w, st.Items = listed(g, 50, func() ([]string, api.Item) {
			words, e := g.whole()
			as, name := g.alias()
			return append(words, as...), api.Item{E: e, Name: name}
		})
		words = append(words, w...)
	}
	words = append(words, "from")
	for i := range 1 + g.r.IntN(4) {
		s := api.Source{Table: g.name()}
		if i > 0 {
			words = append(words, pick(g.r, []string{"join"}, []string{"inner", "join"})...)
		}
		var w []string
		w, s.Alias = g.alias()
		words = append(append(words, s.Table), w...)
		if i > 0 {
			w, s.On = g.whole()
			words = append(append(words, "on"), w...)
		}
		st.From = append(st.From, s)
	}
	w, where := g.where()
	words, st.Where = append(words, w...), where
	if g.odds(2) {
		w, st.Order = listed(g, 50, func() ([]string, api.Sort) {
			words, e := g.whole()
			if g.odds(2) {
				return append(words, "desc"), api.Sort{E: e, Desc: true}
			}
			return words, api.Sort{E: e}
		})
		words = append(append(words, "order", "by"), w...)
	}
	return words, st
}

// statement makes a statement.
func (g *deriver) statement() ([]string, api.Stmt) {
	name, other := g.name(), g.name()
	switch kind := 1 + g.r.IntN(11); kind {
	case api.StCreateTable:
		words, cols := listed(g, 16, g.column)
		return append(append([]string{"create", "table", name, "("}, words...), ")"), api.Stmt{Kind: kind, Table: name, Cols: cols}
	case api.StDropTable:
		return []string{"drop", "table", name}, api.Stmt{Kind: kind, Table: name}
	case api.StCreateIndex:
		words, names := listed(g, 4, func() ([]string, string) { n := g.name(); return []string{n}, n })
		st := api.Stmt{Kind: kind, Index: name, Table: other, Names: names, Unique: g.odds(2)}
		begin := []string{"create", "index", name, "on", other, "("}
		if st.Unique {
			begin = slices.Insert(begin, 1, "unique")
		}
		return append(append(begin, words...), ")"), st
	case api.StDropIndex:
		return []string{"drop", "index", name}, api.Stmt{Kind: kind, Index: name}
	case api.StInsert:
		words, rows := listed(g, 50, g.row)
		return append([]string{"insert", "into", name, "values"}, words...), api.Stmt{Kind: kind, Table: name, Rows: rows}
	case api.StSelect:
		return g.query()
	case api.StUpdate:
		words, sets := listed(g, 50, func() ([]string, api.Set) {
			name := g.name()
			words, e := g.whole()
			return append([]string{name, "="}, words...), api.Set{Col: name, E: e}
		})
		w, where := g.where()
		return append(append([]string{"update", name, "set"}, words...), w...), api.Stmt{Kind: kind, Table: name, Sets: sets, Where: where}
	case api.StDelete:
		w, where := g.where()
		return append([]string{"delete", "from", name}, w...), api.Stmt{Kind: kind, Table: name, Where: where}
	case api.StBegin:
		return []string{"begin"}, api.Stmt{Kind: kind}
	case api.StCommit:
		return []string{"commit"}, api.Stmt{Kind: kind}
	default:
		return []string{"rollback"}, api.Stmt{Kind: kind}
	}
}

// spread puts words together, with letters of any size and with blanks where they are needed, or more.
func spread(r *rand.Rand, words []string) string {
	s := pick(r, "", " ")
	for i, w := range words {
		if w[0] != '\'' && r.IntN(2) == 0 {
			w = strings.ToUpper(w)
		}
		blank := pick(r, "", "", " ", "\n", "\t \r")
		if i > 0 && blank == "" {
			near, _ := lex.Tokens(words[i-1] + w)
			apart, _ := lex.Tokens(words[i-1] + " " + w)
			// Three pieces side by side may be a number with a point.
			if !slices.Equal(near, apart) || w == "." || words[i-1] == "." {
				blank = " "
			}
		}
		s += blank + w
	}
	return s + pick(r, "", "\n")
}

// depthOf tells how deep an expression is, by its text of brackets.
func depthOf(e api.Expr) int {
	var b strings.Builder
	var on func(api.Expr)
	on = func(e api.Expr) {
		for _, a := range e.Args {
			b.WriteByte('(')
			on(a)
			b.WriteByte(')')
		}
	}
	on(e)
	deepest, now := 0, 0
	for _, c := range b.String() {
		if c == '(' {
			now++
		} else {
			now--
		}
		deepest = max(deepest, now)
	}
	return deepest
}

// TestP13_1Derived holds statements made by the grammar against what they are to be read as.
func TestP13_1Derived(t *testing.T) {
	r := rand.New(rand.NewPCG(13, 2))
	good, deep := 0, 0
	for range 20000 {
		g := &deriver{r: r, most: 1 + r.IntN(6)}
		words, want := g.statement()
		s := spread(r, words)
		wantCode := api.OK
		switch {
		case len(s) > 4000:
			want, wantCode = api.Stmt{}, api.ErrLong
		case deepest(want) > 40:
			want, wantCode = api.Stmt{}, api.ErrDeep
			deep++
		default:
			good++
		}
		st, code := parse.Parse(s)
		if code != wantCode || !reflect.DeepEqual(st, want) {
			t.Errorf("%s: %+v, %d, not %+v, %d", short(s), st, code, want, wantCode)
		}
	}
	if good < 10000 {
		t.Errorf("only %d statements, %d too deep", good, deep)
	}
}

// expressions gives the expressions of a statement.
func expressions(st api.Stmt) []*api.Expr {
	all := []*api.Expr{&st.Where}
	for _, row := range st.Rows {
		for i := range row {
			all = append(all, &row[i])
		}
	}
	for i := range st.Items {
		all = append(all, &st.Items[i].E)
	}
	for i := range st.From {
		all = append(all, &st.From[i].On)
	}
	for i := range st.Order {
		all = append(all, &st.Order[i].E)
	}
	for i := range st.Sets {
		all = append(all, &st.Sets[i].E)
	}
	return all
}

// deepest tells how deep the deepest expression of a statement is.
func deepest(st api.Stmt) int {
	most := 0
	for _, e := range expressions(st) {
		most = max(most, depthOf(*e))
	}
	return most
}

func TestP13_2DepthOfMany(t *testing.T) {
	r := rand.New(rand.NewPCG(13, 3))
	for range 5000 {
		g := &deriver{r: r, most: 1 + r.IntN(8)}
		words, e := g.whole()
		if n := parse.Depth(e); n != depthOf(e) {
			t.Errorf("%v: %d, not %d", words, n, depthOf(e))
		}
	}
}

// spoil writes over all lists of an expression, spare room too.
func spoil(e *api.Expr) {
	for i := range e.Args {
		spoil(&e.Args[i])
	}
	room := e.Args[:cap(e.Args)]
	for i := range room {
		room[i] = api.Expr{Op: -1, Text: "spoilt"}
	}
}

// fill writes over a list, spare room too.
func fill[T any](list []T, with T) {
	for i := range list[:cap(list)] {
		list[:cap(list)][i] = with
	}
}

func TestP13_2NewMemory(t *testing.T) {
	for _, s := range []string{
		"CREATE TABLE t (a INT, b TEXT NOT NULL, c REAL)", "CREATE INDEX i ON t (a, b, c)",
		"INSERT INTO t VALUES (1, a + b, NOT NOT c), (2), (3, 4, - 5 * 6, INT(7))",
		"SELECT a + 1 AS b, c FROM t JOIN u ON a = b AND c IS NULL JOIN v ON x WHERE a + b + c < 5 ORDER BY a + 1 DESC, b, c",
		"UPDATE t SET a = a + 1, b = - b, c = 1 WHERE a * b = c", "DELETE FROM t WHERE a OR b OR c",
	} {
		want, _ := parse.Parse(s)
		first, _ := parse.Parse(s)
		second, _ := parse.Parse(s)
		for _, e := range expressions(second) {
			parse.Depth(*e)
			spoil(e)
		}
		fill(second.Cols, api.Column{Name: "spoilt"})
		fill(second.Names, "spoilt")
		for _, row := range second.Rows {
			fill(row, api.Expr{Op: -1})
		}
		fill(second.Rows, nil)
		fill(second.Items, api.Item{Name: "spoilt"})
		fill(second.From, api.Source{Table: "spoilt"})
		fill(second.Order, api.Sort{Desc: true})
		fill(second.Sets, api.Set{Col: "spoilt"})
		if !reflect.DeepEqual(first, want) {
			t.Errorf("%s: what was written over the second answer is in the first one: %+v", s, first)
		}
	}
	first, _ := parse.Parse("SELECT a + 1, b + 2 FROM t WHERE c + 3 = d ORDER BY e + 4, f + 5")
	want, _ := parse.Parse("SELECT a + 1, b + 2 FROM t WHERE c + 3 = d ORDER BY e + 4, f + 5")
	spoil(&first.Items[0].E)
	spoil(&first.Order[1].E)
	spoil(&first.Where.Args[0])
	if !reflect.DeepEqual(first.Items[1], want.Items[1]) || !reflect.DeepEqual(first.Order[0], want.Order[0]) || !reflect.DeepEqual(first.Where.Args[1], want.Where.Args[1]) {
		t.Errorf("the lists of one answer share memory: %+v", first)
	}
}

func TestP13_2ArgumentUnchanged(t *testing.T) {
	args := make([]api.Expr, 1, 4)
	args[0] = op(api.OpNeg, whole(1))
	room := slices.Clone(args[:4])
	parse.Depth(api.Expr{Op: api.OpAdd, Args: args})
	if !reflect.DeepEqual(args[:4], room) {
		t.Errorf("the argument is changed: %+v", args[:4])
	}
}

func TestP1P2AnyArguments(t *testing.T) {
	r := rand.New(rand.NewPCG(13, 4))
	list := []string{"", "\x00", "'", strings.Repeat("(", 4000), "SELECT " + strings.Repeat("(", 3900), "SELECT " + strings.Repeat("-", 3990), "SELECT " + strings.Repeat("NOT ", 990), "SELECT " + strings.Repeat("INT(", 990), strings.Repeat(",", 4000), strings.Repeat("select ", 500), strings.Repeat("\xff", 1<<20)}
	for range 2000 {
		g := &deriver{r: r, most: 3}
		words, _ := g.statement()
		b := []byte(strings.Join(words, " "))
		for range r.IntN(4) {
			b[r.IntN(len(b))] = byte(r.IntN(256))
		}
		list = append(list, string(b))
	}
	type answer struct {
		st   api.Stmt
		code api.Errno
	}
	var first []answer
	for _, s := range list {
		st, code := parse.Parse(s)
		if code != api.OK && !reflect.DeepEqual(st, api.Stmt{}) {
			t.Errorf("%s: %+v beside %d", short(s), st, code)
		}
		first = append(first, answer{st, code})
	}
	for i, s := range slices.Backward(list) {
		if st, code := parse.Parse(s); code != first[i].code || !reflect.DeepEqual(st, first[i].st) {
			t.Errorf("%s: %+v, then %+v, %d", short(s), first[i], st, code)
		}
	}
	for _, n := range []int{-1 << 63, -3, -1, 0, 1, 21, 22, 23, 1<<63 - 1} {
		e := api.Expr{Op: n, Kind: n, Num: int64(n), Scale: n, Text: "\xff", Qual: strings.Repeat("q", 1000), Args: []api.Expr{{}, {Op: n, Args: []api.Expr{{Op: 3}}}}}
		if parse.Depth(e) != parse.Depth(e) || parse.Depth(e) < 0 {
			t.Errorf("%d: %d", n, parse.Depth(e))
		}
	}
}
