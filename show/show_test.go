package show_test

import (
	"fmt"
	"math/rand/v2"
	"reflect"
	"slices"
	"strconv"
	"strings"
	"testing"

	"hasp/api"
	"hasp/parse"
	"hasp/show"
)

// shows looks whether a statement has this form, and whether that is read as the statement.
func shows(t *testing.T, st api.Stmt, want string) {
	t.Helper()
	s, code := show.Show(st)
	if code != api.OK || s != want {
		t.Errorf("%q, %d, not %q", s, code, want)
	}
	if again, code := parse.Parse(s); code != api.OK || !reflect.DeepEqual(again, st) {
		t.Errorf("%q is read as %+v, %d, not %+v", s, again, code, st)
	}
}

// form looks whether an expression has this form.
func form(t *testing.T, e api.Expr, want string) {
	t.Helper()
	shows(t, where(e), "DELETE FROM t WHERE "+want)
}

func TestP14_2Statements(t *testing.T) {
	a, b := col("a"), col("b")
	shows(t, api.Stmt{Kind: api.StCreateTable, Table: "t", Cols: []api.Column{{Name: "a", Type: api.Int}}}, "CREATE TABLE t (a INT)")
	shows(t, api.Stmt{Kind: api.StCreateTable, Table: "t", Cols: []api.Column{{Name: "a", Type: api.Int, Required: true}, {Name: "b", Type: api.Real}, {Name: "c", Type: api.Bool, Required: true}, {Name: "d", Type: api.Text}}},
		"CREATE TABLE t (a INT NOT NULL, b REAL, c BOOL NOT NULL, d TEXT)")
	shows(t, api.Stmt{Kind: api.StDropTable, Table: "t"}, "DROP TABLE t")
	shows(t, api.Stmt{Kind: api.StCreateIndex, Index: "i", Table: "t", Names: []string{"a"}}, "CREATE INDEX i ON t (a)")
	shows(t, api.Stmt{Kind: api.StCreateIndex, Index: "i", Table: "t", Names: []string{"b", "a", "c_1"}, Unique: true}, "CREATE UNIQUE INDEX i ON t (b, a, c_1)")
	shows(t, api.Stmt{Kind: api.StDropIndex, Index: "i"}, "DROP INDEX i")
	shows(t, api.Stmt{Kind: api.StInsert, Table: "t", Rows: [][]api.Expr{{a}}}, "INSERT INTO t VALUES (a)")
	shows(t, api.Stmt{Kind: api.StInsert, Table: "t", Rows: [][]api.Expr{{whole(1), text("x"), op(api.OpNeg, whole(2))}, {null()}}}, "INSERT INTO t VALUES (1, 'x', (- 2)), (NULL)")
	shows(t, api.Stmt{Kind: api.StSelect, From: []api.Source{{Table: "t"}}}, "SELECT * FROM t")
	shows(t, api.Stmt{Kind: api.StSelect, Items: []api.Item{{E: a}, {E: b, Name: "c"}}, From: []api.Source{{Table: "t", Alias: "u"}}}, "SELECT a, b AS c FROM t AS u")
	shows(t, api.Stmt{Kind: api.StSelect, Items: []api.Item{{E: of("a", "x")}, {E: op(api.OpAdd, op(api.OpNeg, whole(1)), op(api.OpMul, b, whole(2))), Name: "c"}},
		From:  []api.Source{{Table: "t", Alias: "a"}, {Table: "u", On: op(api.OpNot, op(api.OpIsNull, col("x")))}},
		Order: []api.Sort{{E: point(750, 2), Desc: true}}},
		"SELECT a.x, ((- 1) + (b * 2)) AS c FROM t AS a INNER JOIN u ON (NOT (x IS NULL)) ORDER BY 7.50 DESC")
	shows(t, api.Stmt{Kind: api.StSelect, From: []api.Source{{Table: "t"}, {Table: "u", Alias: "v", On: a}, {Table: "t", On: truth(1)}, {Table: "t", On: b}},
		Where: op(api.OpOr, a, b), Order: []api.Sort{{E: a}, {E: b, Desc: true}, {E: op(api.OpToInt, a)}}},
		"SELECT * FROM t INNER JOIN u AS v ON a INNER JOIN t ON TRUE INNER JOIN t ON b WHERE (a OR b) ORDER BY a, b DESC, INT(a)")
	shows(t, api.Stmt{Kind: api.StUpdate, Table: "t", Sets: []api.Set{{Col: "a", E: op(api.OpEq, a, b)}}}, "UPDATE t SET a = (a = b)")
	shows(t, api.Stmt{Kind: api.StUpdate, Table: "t", Sets: []api.Set{{Col: "a", E: null()}, {Col: "b", E: op(api.OpSub, a, whole(1))}}, Where: op(api.OpNotNull, a)},
		"UPDATE t SET a = NULL, b = (a - 1) WHERE (a IS NOT NULL)")
	shows(t, api.Stmt{Kind: api.StDelete, Table: "t"}, "DELETE FROM t")
	shows(t, api.Stmt{Kind: api.StDelete, Table: "t", Where: a}, "DELETE FROM t WHERE a")
	shows(t, api.Stmt{Kind: api.StBegin}, "BEGIN")
	shows(t, api.Stmt{Kind: api.StCommit}, "COMMIT")
	shows(t, api.Stmt{Kind: api.StRollback}, "ROLLBACK")
}

func TestP14_2Constants(t *testing.T) {
	form(t, null(), "NULL")
	form(t, truth(1), "TRUE")
	form(t, truth(0), "FALSE")
	form(t, point(0, api.ScaleNaN), "NAN")
	form(t, point(0, api.ScaleInf), "INFINITY")
	form(t, whole(0), "0")
	form(t, whole(10), "10")
	form(t, whole(9223372036854775807), "9223372036854775807")
	form(t, point(750, 2), "7.50")
	form(t, point(0, 1), "0.0")
	form(t, point(0, 3), "0.000")
	form(t, point(5, 1), "0.5")
	form(t, point(5, 2), "0.05")
	form(t, point(50, 3), "0.050")
	form(t, point(10, 1), "1.0")
	form(t, point(123, 3), "0.123")
	form(t, point(1234, 3), "1.234")
	form(t, point(0, 14), "0.00000000000000")
	form(t, point(1, 14), "0.00000000000001")
	form(t, point(999999999999999, 14), "9.99999999999999")
	form(t, point(999999999999999, 1), "99999999999999.9")
	form(t, text(""), "''")
	form(t, text("a b"), "'a b'")
	form(t, text("it's"), "'it''s'")
	form(t, text("''"), "''''''")
	form(t, text("( ,\n\x00\xff\"%s"), "'( ,\n\x00\xff\"%s'")
	form(t, text(strings.Repeat("'", 200)), "'"+strings.Repeat("''", 200)+"'")
	form(t, col("a"), "a")
	form(t, of("t", "a"), "t.a")
}

func TestP14_2Operators(t *testing.T) {
	a, b := col("a"), of("t", "b")
	for n, word := range map[int]string{api.OpEq: "=", api.OpNe: "<>", api.OpLt: "<", api.OpLe: "<=", api.OpGt: ">", api.OpGe: ">=",
		api.OpAdd: "+", api.OpSub: "-", api.OpMul: "*", api.OpDiv: "/", api.OpMod: "%", api.OpCat: "||", api.OpAnd: "AND", api.OpOr: "OR"} {
		form(t, op(n, a, b), "(a "+word+" t.b)")
		form(t, op(n, op(n, b, a), op(n, a, null())), "((t.b "+word+" a) "+word+" (a "+word+" NULL))")
	}
	form(t, op(api.OpNeg, a), "(- a)")
	form(t, op(api.OpNeg, op(api.OpNeg, b)), "(- (- t.b))")
	form(t, op(api.OpNot, a), "(NOT a)")
	form(t, op(api.OpNot, op(api.OpNot, a)), "(NOT (NOT a))")
	form(t, op(api.OpIsNull, a), "(a IS NULL)")
	form(t, op(api.OpNotNull, op(api.OpIsNull, a)), "((a IS NULL) IS NOT NULL)")
	form(t, op(api.OpToInt, a), "INT(a)")
	form(t, op(api.OpToReal, op(api.OpToInt, op(api.OpAdd, a, b))), "REAL(INT((a + t.b)))")
	form(t, op(api.OpNeg, op(api.OpToReal, a)), "(- REAL(a))")
}

func TestP14_2Long(t *testing.T) {
	// of gives a statement whose form has so many bytes, up to 4200 of them.
	of := func(size int) api.Stmt {
		sets := some(20, api.Set{Col: "a", E: text(strings.Repeat("x", 200))})
		st := api.Stmt{Kind: api.StUpdate, Table: "t", Sets: sets}
		whole := len("UPDATE t SET ") + 20*len("a = ''") + 19*len(", ") + 20*200
		for i := range sets {
			less := min(200, max(0, whole-size))
			sets[i].E.Text = strings.Repeat("x", 200-less)
			whole -= less
		}
		return st
	}
	for _, size := range []int{3000, 3998, 3999, 4000} {
		s, code := show.Show(of(size))
		if code != api.OK || len(s) != size {
			t.Errorf("%d bytes: %d, %d", size, len(s), code)
		}
		shows(t, of(size), s)
	}
	for _, size := range []int{4001, 4002, 4100} {
		if s, code := show.Show(of(size)); code != api.ErrLong || s != "" {
			t.Errorf("%d bytes: %q, %d", size, s, code)
		}
		if code := show.Check(of(size)); code != api.OK {
			t.Errorf("%d bytes: Check: %d", size, code)
		}
	}
	quotes := some(10, text(strings.Repeat("'", 200)))
	if s, code := show.Show(api.Stmt{Kind: api.StInsert, Table: "t", Rows: [][]api.Expr{quotes}}); code != api.ErrLong || s != "" {
		t.Errorf("quotes, each twice: %d bytes, %d", len(s), code)
	}
	is(t, "long and wrong", api.Stmt{Kind: api.StInsert, Table: "t", Index: "i", Rows: [][]api.Expr{quotes}}, api.ErrArg)
	is(t, "long and deep", api.Stmt{Kind: api.StInsert, Table: "t", Rows: [][]api.Expr{quotes, {tower(41, null())}}}, api.ErrDeep)
	all := some(50, some(50, text(strings.Repeat("a", 200))))
	if s, code := show.Show(api.Stmt{Kind: api.StInsert, Table: "t", Rows: all}); code != api.ErrLong || s != "" {
		t.Errorf("as much as there may be: %d bytes, %d", len(s), code)
	}
}

// maker makes right statements at random.
type maker struct {
	r    *rand.Rand
	most int // elements of a list
}

func pick[T any](r *rand.Rand, list ...T) T { return list[r.IntN(len(list))] }

func (m *maker) odds(n int) bool { return m.r.IntN(n) == 0 }

func (m *maker) name() string { return pick(m.r, "a", "b", "t", "_x9", "selects", "i") }

// perhaps gives a name or none.
func (m *maker) perhaps() string { return pick(m.r, "", m.name()) }

// list makes up to some elements, one at least.
func list[T any](m *maker, most int, one func() T) []T {
	var all []T
	for range 1 + m.r.IntN(min(most, m.most)) {
		all = append(all, one())
	}
	return all
}

func (m *maker) constant() api.Expr {
	switch m.r.IntN(6) {
	case 0:
		return null()
	case 1:
		return truth(m.r.Int64N(2))
	case 2:
		return whole(m.r.Int64() >> m.r.IntN(63))
	case 3:
		return point(m.r.Int64N(pick(m.r, int64(1), 10, 10000, 1000000000000000)), 1+m.r.IntN(14))
	case 4:
		return point(0, pick(m.r, api.ScaleNaN, api.ScaleInf))
	}
	b := make([]byte, m.r.IntN(pick(m.r, 3, 10, 201)))
	for i := range b {
		b[i] = pick(m.r, '\'', ' ', 'a', '(', byte(m.r.IntN(256)))
	}
	return text(string(b))
}

func (m *maker) expr() api.Expr {
	switch {
	case m.odds(3):
		return m.constant()
	case m.odds(2):
		return api.Expr{Op: api.OpColumn, Text: m.name(), Qual: m.perhaps()}
	}
	n := api.OpEq + m.r.IntN(20)
	switch n {
	case api.OpNeg, api.OpToInt, api.OpToReal, api.OpNot, api.OpIsNull, api.OpNotNull:
		return op(n, m.expr())
	}
	return op(n, m.expr(), m.expr())
}

func (m *maker) perhapsExpr() api.Expr { return pick(m.r, none, m.expr()) }

func (m *maker) source() api.Source {
	return api.Source{Table: m.name(), Alias: m.perhaps(), On: m.expr()}
}

func (m *maker) statement() api.Stmt {
	switch kind := 1 + m.r.IntN(11); kind {
	case api.StCreateTable:
		return api.Stmt{Kind: kind, Table: m.name(), Cols: list(m, 16, func() api.Column {
			return api.Column{Name: m.name(), Type: 1 + m.r.IntN(4), Required: m.odds(2)}
		})}
	case api.StDropTable:
		return api.Stmt{Kind: kind, Table: m.name()}
	case api.StCreateIndex:
		return api.Stmt{Kind: kind, Index: m.name(), Table: m.name(), Names: list(m, 4, m.name), Unique: m.odds(2)}
	case api.StDropIndex:
		return api.Stmt{Kind: kind, Index: m.name()}
	case api.StInsert:
		return api.Stmt{Kind: kind, Table: m.name(), Rows: list(m, 50, func() []api.Expr { return list(m, 50, m.expr) })}
	case api.StSelect:
		st := api.Stmt{Kind: kind, From: list(m, 4, m.source), Where: m.perhapsExpr()}
		st.From[0].On = none
		if m.odds(2) {
			st.Items = list(m, 50, func() api.Item { return api.Item{E: m.expr(), Name: m.perhaps()} })
		}
		if m.odds(2) {
			st.Order = list(m, 50, func() api.Sort { return api.Sort{E: m.expr(), Desc: m.odds(2)} })
		}
		return st
	case api.StUpdate:
		return api.Stmt{Kind: kind, Table: m.name(), Where: m.perhapsExpr(), Sets: list(m, 50, func() api.Set { return api.Set{Col: m.name(), E: m.expr()} })}
	case api.StDelete:
		return api.Stmt{Kind: kind, Table: m.name(), Where: m.perhapsExpr()}
	default:
		return api.Stmt{Kind: kind}
	}
}

// call is the parenthesis behind INT and REAL, which has no blank ahead of it.
const call = "call("

// joined puts tokens together with the blanks that the document tells.
func joined(tokens []string) string {
	noneAhead, noneBehind := []string{")", ",", ".", call}, []string{"(", ".", call}
	var b strings.Builder
	for i, w := range tokens {
		if i > 0 && !slices.Contains(noneAhead, w) && !slices.Contains(noneBehind, tokens[i-1]) {
			b.WriteString(" ")
		}
		b.WriteString(strings.TrimPrefix(w, "call"))
	}
	return b.String()
}

// words gives an expression's tokens.
func words(e api.Expr) []string {
	signs := []string{api.OpEq: "=", api.OpNe: "<>", api.OpLt: "<", api.OpLe: "<=", api.OpGt: ">", api.OpGe: ">=", api.OpAdd: "+", api.OpSub: "-", api.OpMul: "*", api.OpDiv: "/", api.OpMod: "%", api.OpCat: "||", api.OpNeg: "-", api.OpToInt: "INT", api.OpToReal: "REAL", api.OpNot: "NOT", api.OpAnd: "AND", api.OpOr: "OR", api.OpIsNull: "IS NULL", api.OpNotNull: "IS NOT NULL"}
	switch e.Op {
	case api.OpConst:
		return []string{constant(e)}
	case api.OpColumn:
		if e.Qual != "" {
			return []string{e.Qual, ".", e.Text}
		}
		return []string{e.Text}
	case api.OpNeg, api.OpNot:
		return slices.Concat([]string{"(", signs[e.Op]}, words(e.Args[0]), []string{")"})
	case api.OpIsNull, api.OpNotNull:
		return slices.Concat([]string{"("}, words(e.Args[0]), []string{signs[e.Op], ")"})
	case api.OpToInt, api.OpToReal:
		return slices.Concat([]string{signs[e.Op], call}, words(e.Args[0]), []string{")"})
	}
	return slices.Concat([]string{"("}, words(e.Args[0]), []string{signs[e.Op]}, words(e.Args[1]), []string{")"})
}

// constant gives a constant's text.
func constant(e api.Expr) string {
	switch {
	case e.Kind == api.Null:
		return "NULL"
	case e.Kind == api.Bool:
		return strings.ToUpper(strconv.FormatBool(e.Num == 1))
	case e.Kind == api.Int:
		return fmt.Sprint(e.Num)
	case e.Kind == api.Text:
		return "'" + strings.Join(strings.Split(e.Text, "'"), "''") + "'"
	case e.Scale == api.ScaleNaN:
		return "NAN"
	case e.Scale == api.ScaleInf:
		return "INFINITY"
	}
	power := int64(1)
	for range e.Scale {
		power *= 10
	}
	return fmt.Sprintf("%d.%0*d", e.Num/power, e.Scale, e.Num%power)
}

// each gives the tokens of a list's elements, with commas between.
func each[T any](list []T, one func(T) []string) []string {
	var all []string
	for i, element := range list {
		if i > 0 {
			all = append(all, ",")
		}
		all = append(all, one(element)...)
	}
	return all
}

// behind gives a word and what stands behind it, if that is something.
func behind(word string, what []string) []string {
	if len(what) == 0 || what[0] == "" {
		return nil
	}
	return append(strings.Fields(word), what...)
}

// statementWords gives a statement's tokens.
func statementWords(st api.Stmt) []string {
	f := strings.Fields
	row := func(list []api.Expr) []string { return slices.Concat(f("("), each(list, words), f(")")) }
	condition := func() []string {
		if st.Where.Op == 0 {
			return nil
		}
		return behind("WHERE", words(st.Where))
	}
	switch st.Kind {
	case api.StCreateTable:
		return slices.Concat(f("CREATE TABLE "+st.Table+" ("), each(st.Cols, func(c api.Column) []string {
			return f(c.Name + " " + []string{"", "BOOL", "INT", "REAL", "TEXT"}[c.Type] + map[bool]string{true: " NOT NULL"}[c.Required])
		}), f(")"))
	case api.StDropTable:
		return f("DROP TABLE " + st.Table)
	case api.StCreateIndex:
		return slices.Concat(f("CREATE"+map[bool]string{true: " UNIQUE"}[st.Unique]+" INDEX "+st.Index+" ON "+st.Table+" ("), f(strings.Join(st.Names, " , ")), f(")"))
	case api.StDropIndex:
		return f("DROP INDEX " + st.Index)
	case api.StInsert:
		return slices.Concat(f("INSERT INTO "+st.Table+" VALUES"), each(st.Rows, row))
	case api.StSelect:
		items := each(st.Items, func(i api.Item) []string { return append(words(i.E), behind("AS", []string{i.Name})...) })
		if len(items) == 0 {
			items = f("*")
		}
		all := slices.Concat(f("SELECT"), items, f("FROM"))
		for i, s := range st.From {
			if i > 0 {
				all = append(all, "INNER", "JOIN")
			}
			all = slices.Concat(all, f(s.Table), behind("AS", []string{s.Alias}))
			if i > 0 {
				all = slices.Concat(all, f("ON"), words(s.On))
			}
		}
		return slices.Concat(all, condition(), behind("ORDER BY", each(st.Order, func(s api.Sort) []string {
			return append(words(s.E), f(map[bool]string{true: "DESC"}[s.Desc])...)
		})))
	case api.StUpdate:
		return slices.Concat(f("UPDATE "+st.Table+" SET"), each(st.Sets, func(s api.Set) []string { return append(f(s.Col+" ="), words(s.E)...) }), condition())
	case api.StDelete:
		return append(f("DELETE FROM "+st.Table), condition()...)
	}
	return f([]string{"BEGIN", "COMMIT", "ROLLBACK"}[st.Kind-api.StBegin])
}

// TestP14_2P14_3Random holds right statements against their tokens put together, and against what is read of them.
func TestP14_2P14_3Random(t *testing.T) {
	r := rand.New(rand.NewPCG(14, 1))
	long := 0
	for range 20000 {
		m := &maker{r: r, most: pick(r, 1, 3, 5, 20)}
		st := m.statement()
		if code := show.Check(st); code != api.OK {
			t.Errorf("%+v: Check: %d", st, code)
			continue
		}
		want := joined(statementWords(st))
		if len(want) > 4000 {
			long++
			if s, code := show.Show(st); code != api.ErrLong || s != "" {
				t.Errorf("%d bytes: %d", len(want), code)
			}
			continue
		}
		shows(t, st, want)
	}
	if long < 20 || long > 10000 {
		t.Errorf("%d forms are too long", long)
	}
}

// TestP14_3Spoilt changes one thing in a right statement: Check takes it just if what Show gives is read as that statement.
func TestP14_3Spoilt(t *testing.T) {
	r := rand.New(rand.NewPCG(14, 2))
	wrong := 0
	for range 20000 {
		m := &maker{r: r, most: 2}
		st := m.statement()
		spoil(r, &st)
		s, code := show.Show(st)
		if code == api.ErrLong {
			continue
		}
		if code == api.OK {
			if again, e := parse.Parse(s); e != api.OK || !reflect.DeepEqual(again, st) {
				t.Errorf("%+v: %q is read as %+v, %d", st, s, again, e)
			}
			continue
		}
		wrong++
		// What is refused isn't what its tokens are read as.
		if again, e := readBack(st); e == api.OK && reflect.DeepEqual(again, st) {
			t.Errorf("%+v is refused: %d", st, code)
		}
	}
	if wrong < 1000 {
		t.Errorf("only %d are refused", wrong)
	}
}

// readBack reads a statement's tokens; a statement that has none is nothing.
func readBack(st api.Stmt) (again api.Stmt, code api.Errno) {
	defer func() {
		if recover() != nil {
			again, code = api.Stmt{}, api.ErrArg
		}
	}()
	return parse.Parse(joined(statementWords(st)))
}

// spoil changes a field of a statement, or of an expression in it.
func spoil(r *rand.Rand, st *api.Stmt) {
	name := pick(r, "", "a", "A", "null", "i")
	n := pick(r, -1, 0, 1, 2, 12, 14, 15, 20)
	switch r.IntN(8) {
	case 0:
		st.Table = name
	case 1:
		st.Index = name
	case 2:
		st.Unique = !st.Unique
	case 3:
		st.Kind = n
	case 4:
		st.Where = pick(r, none, null(), col(name))
	default:
		e := &st.Where
		if len(st.Rows) > 0 {
			e = &st.Rows[0][0]
		} else if len(st.Sets) > 0 {
			e = &st.Sets[len(st.Sets)-1].E
		} else if len(st.From) > 0 {
			e = &st.From[len(st.From)-1].On
		}
		for len(e.Args) > 0 && r.IntN(2) == 0 {
			e = &e.Args[r.IntN(len(e.Args))]
		}
		switch r.IntN(7) {
		case 0:
			e.Op = n
		case 1:
			e.Kind = n
		case 2:
			e.Num = pick(r, int64(n), 1000000000000000)
		case 3:
			e.Scale = n
		case 4:
			e.Text = name
		case 5:
			e.Qual = name
		case 6:
			e.Args = pick(r, nil, append(slices.Clone(e.Args), null()))
		}
	}
}

func TestP1P2AnyArguments(t *testing.T) {
	r := rand.New(rand.NewPCG(14, 3))
	var list []api.Stmt
	for range 3000 {
		m := &maker{r: r, most: 3}
		st := m.statement()
		for range r.IntN(4) {
			spoil(r, &st)
		}
		list = append(list, st)
	}
	type answer struct {
		text        string
		code, check api.Errno
	}
	do := func(st api.Stmt) answer {
		text, code := show.Show(st)
		return answer{text, code, show.Check(st)}
	}
	var first []answer
	for _, st := range list {
		before := fmt.Sprintf("%#v", st)
		a := do(st)
		if fmt.Sprintf("%#v", st) != before {
			t.Errorf("%s is changed", before)
		}
		if a.code != api.OK && a.text != "" || a.check != api.OK && a.code != a.check {
			t.Errorf("%+v: %+v", st, a)
		}
		first = append(first, a)
	}
	for i, st := range slices.Backward(list) {
		if a := do(st); a != first[i] {
			t.Errorf("%+v: %+v, then %+v", st, first[i], a)
		}
	}
}

// TestP14_2SpareRoom holds that the spare room of what is handed in stays as it is.
func TestP14_2SpareRoom(t *testing.T) {
	args := append(make([]api.Expr, 0, 4), col("a"), col("b"))
	rows := append(make([][]api.Expr, 0, 4), args)
	spare := func() string { return fmt.Sprint(args[:4], rows[:4]) }
	before := spare()
	show.Show(api.Stmt{Kind: api.StInsert, Table: "t", Rows: rows})
	show.Show(where(api.Expr{Op: api.OpAdd, Args: args}))
	show.Check(api.Stmt{Kind: api.StInsert, Table: "t", Rows: rows})
	if spare() != before {
		t.Errorf("%s, not %s", spare(), before)
	}
}
