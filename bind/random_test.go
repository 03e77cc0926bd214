package bind_test

import (
	"fmt"
	"math"
	"math/rand/v2"
	"reflect"
	"slices"
	"testing"

	"hasp/api"
	"hasp/bind"
	"hasp/expr"
	"hasp/rows"
	"hasp/show"
)

// maker makes right statements at random, of which many have no fault.
type maker struct {
	*rand.Rand
	over []spot // the sources of the statement that is being made
}

func newMaker(seed uint64) *maker { return &maker{Rand: rand.New(rand.NewPCG(seed, 16))} }

func (g *maker) odds(n int) bool { return g.IntN(n) == 0 }

func pick[T any](g *maker, list ...T) T { return list[g.IntN(len(list))] }

// table gives the name of a table, seldom one that there isn't.
func (g *maker) table() string {
	if g.odds(20) {
		return pick(g, "no", "i", "x")
	}
	return pick(g, "t", "t", "u", "v", "w", "t", "u", "systables", "syscolumns", "sysindexes")
}

// cols gives the columns of the table of that name.
func (g *maker) cols(name string) []api.Column {
	x, _ := (&judge{tables: append(systems(), sample()...)}).table(name)
	return x.Cols
}

// column gives a column of that type, if a source has one; seldom any name at all.
func (g *maker) column(kind int) api.Expr {
	var all []api.Expr
	for _, s := range g.over {
		for _, c := range s.cols {
			if c.Type == kind {
				all = append(all, api.Expr{Op: api.OpColumn, Text: c.Name, Qual: s.name}, api.Expr{Op: api.OpColumn, Text: c.Name, Qual: s.name})
			}
			if c.Type == kind && len(g.over) < 2 || g.odds(10) {
				all = append(all, api.Expr{Op: api.OpColumn, Text: c.Name})
			}
		}
	}
	if g.odds(60) {
		return api.Expr{Op: api.OpColumn, Text: pick(g, "a", "no", "e"), Qual: pick(g, "", "t", "x", "no")}
	}
	if len(all) == 0 {
		return g.constant(kind)
	}
	return pick(g, all...)
}

func (g *maker) constant(kind int) api.Expr {
	e := api.Expr{Op: api.OpConst, Kind: kind}
	switch {
	case kind == api.Bool:
		e.Num = g.Int64N(2)
	case kind == api.Int:
		e.Num = pick(g, g.Int64N(4), g.Int64(), math.MaxInt64)
	case kind == api.Real && g.odds(4):
		e.Scale = pick(g, api.ScaleNaN, api.ScaleInf)
	case kind == api.Real:
		e.Num, e.Scale = pick(g, g.Int64N(100), g.Int64N(1000000000000000)), 1+g.IntN(14)
	case kind == api.Text:
		e.Text = pick(g, "", "x", "it's", "\xff")
	}
	return e
}

// expr makes an expression, most often of that type.
func (g *maker) expr(kind, depth int) api.Expr {
	switch {
	case g.odds(50):
		kind = g.IntN(5)
	case kind == api.Null || g.odds(30):
		return g.constant(api.Null)
	}
	if depth == 0 || g.odds(4) {
		return pick(g, g.constant, g.column)(kind)
	}
	var ops []int
	for op := api.OpEq; op <= api.OpNotNull; op++ {
		for _, s := range signatures(op) {
			if s[len(s)-1] == kind {
				ops = append(ops, op)
			}
		}
	}
	if len(ops) == 0 {
		return g.constant(kind)
	}
	e := api.Expr{Op: pick(g, ops...)}
	for s := g.fitting(e.Op, kind); len(e.Args) < len(s)-1; {
		e.Args = append(e.Args, g.expr(s[len(e.Args)], depth-1))
	}
	return e
}

// fitting gives one of an operator's signatures with an answer of that type.
func (g *maker) fitting(op, kind int) []int {
	all := signatures(op)
	g.Shuffle(len(all), func(i, k int) { all[i], all[k] = all[k], all[i] })
	for _, s := range all {
		if s[len(s)-1] == kind {
			return s
		}
	}
	return all[0]
}

// where makes a condition, or none.
func (g *maker) where() api.Expr {
	if g.odds(3) {
		return api.Expr{}
	}
	return g.expr(api.Bool, 4)
}

func (g *maker) statement() api.Stmt {
	g.over = nil
	st := api.Stmt{Kind: pick(g, 1, 2, 3, 3, 4, 5, 5, 6, 6, 6, 6, 7, 7, 8, 9, 10, 11)}
	switch st.Kind {
	case api.StCreateTable:
		st.Table = pick(g, "x", "y", g.table())
		for range 1 + g.IntN(5) {
			st.Cols = append(st.Cols, api.Column{Name: pick(g, "a", "b", "c", "d", "e", "f", "g", "h"), Type: 1 + g.IntN(4), Required: g.odds(2)})
		}
	case api.StDropTable:
		st.Table = g.table()
	case api.StCreateIndex:
		st.Table, st.Index, st.Unique = g.table(), pick(g, "x", "y", "z", "i", "k", "w3"), g.odds(2)
		for range 1 + g.IntN(3) {
			st.Names = append(st.Names, pick(g, "a", "b", "c", "d", "e"))
		}
	case api.StDropIndex:
		st.Index = pick(g, "i", "j", "k", "w0", "w7", "x")
	case api.StInsert:
		g.rows(&st)
	case api.StSelect:
		g.query(&st)
	case api.StUpdate, api.StDelete:
		st.Table = g.table()
		g.over = []spot{{st.Table, g.cols(st.Table)}}
		st.Where = g.where()
		g.sets(&st)
	}
	return st
}

func (g *maker) rows(st *api.Stmt) {
	st.Table = g.table()
	cols := g.cols(st.Table)
	for range 1 + g.IntN(3) {
		var row []api.Expr
		for _, c := range cols {
			row = append(row, g.expr(c.Type, 2))
		}
		if g.odds(20) || len(row) == 0 {
			row = append(row, g.constant(api.Int))
		}
		st.Rows = append(st.Rows, row)
	}
}

func (g *maker) query(st *api.Stmt) {
	for n := range 1 + g.IntN(4) {
		s := api.Source{Table: g.table(), Alias: pick(g, "", fmt.Sprint("x", n), fmt.Sprint("x", n), "t")}
		name := s.Alias
		if name == "" {
			name = s.Table
		}
		g.over = append(g.over, spot{name, g.cols(s.Table)})
		if n > 0 {
			s.On = g.expr(api.Bool, 3)
		}
		st.From = append(st.From, s)
	}
	st.Where = g.where()
	for range g.IntN(4) {
		st.Items = append(st.Items, api.Item{E: g.expr(1+g.IntN(4), 3), Name: pick(g, "", "", "p")})
		st.Order = append(st.Order, api.Sort{E: g.expr(1+g.IntN(4), 2), Desc: g.odds(2)})
	}
	st.Order = st.Order[:g.IntN(len(st.Order)+1)]
}

func (g *maker) sets(st *api.Stmt) {
	for n := 0; st.Kind == api.StUpdate && n < 1+g.IntN(3); n++ {
		c := pick(g, append(g.over[0].cols, api.Column{Name: "no", Type: api.Int})...)
		st.Sets = append(st.Sets, api.Set{Col: c.Name, E: g.expr(c.Type, 3)})
	}
}

// TestP16_1Random holds Bind against the chapter's words over statements of all kinds.
func TestP16_1Random(t *testing.T) {
	g := newMaker(161)
	met := map[[2]int]int{}
	for range 20000 {
		st := g.statement()
		if e := show.Check(st); e != api.OK {
			t.Fatalf("%+v: %d", st, e)
		}
		want, code := judged(st, sample())
		met[[2]int{st.Kind, int(code)}]++
		check(t, "", st, sample(), want, code)
	}
	for kind, list := range [][]api.Errno{
		api.StCreateTable: {api.OK, api.ErrExists}, api.StDropTable: {api.OK, api.ErrTable, api.ErrSystem},
		api.StCreateIndex: {api.OK, api.ErrTable, api.ErrSystem, api.ErrExists, api.ErrMany, api.ErrColumn}, api.StDropIndex: {api.OK, api.ErrIndex},
		api.StInsert: {api.OK, api.ErrTable, api.ErrSystem, api.ErrArity, api.ErrType, api.ErrColumn}, api.StSelect: {api.OK, api.ErrTable, api.ErrExists, api.ErrType, api.ErrColumn, api.ErrAmbiguous},
		api.StUpdate: {api.OK, api.ErrTable, api.ErrSystem, api.ErrColumn, api.ErrExists, api.ErrType}, api.StDelete: {api.OK, api.ErrTable, api.ErrSystem, api.ErrColumn, api.ErrType},
		api.StBegin: {api.OK}, api.StCommit: {api.OK}, api.StRollback: {api.OK},
	} {
		for _, code := range list {
			if met[[2]int{kind, int(code)}] < 3 {
				t.Errorf("kind %d: %d statements with %d", kind, met[[2]int{kind, int(code)}], code)
			}
		}
	}
}

// values gives what may stand in a column of that type.
func (g *maker) values(c api.Column) []api.Value {
	list := []api.Value{{}}
	switch c.Type {
	case api.Bool:
		list = []api.Value{{}, {Kind: api.Bool}, {Kind: api.Bool, Num: 1}}
	case api.Int:
		list = []api.Value{{}, {Kind: api.Int}, {Kind: api.Int, Num: g.Int64N(5)}, {Kind: api.Int, Num: math.MinInt64}, {Kind: api.Int, Num: math.MaxInt64}}
	case api.Real:
		list = []api.Value{{}, {Kind: api.Real}, {Kind: api.Real, Num: bitsOf(-2.5)}, {Kind: api.Real, Num: 0x7ff8000000000000}, {Kind: api.Real, Num: bitsOf(math.Inf(-1))}}
	case api.Text:
		list = []api.Value{{}, {Kind: api.Text}, {Kind: api.Text, Text: "x"}}
	}
	if c.Required {
		return list[1:]
	}
	return list
}

// codesOf gives all codes of a term.
func codesOf(x api.Term) []api.Code {
	return slices.Concat(x.Conds, x.Items, x.Order, slices.Concat(x.Rows...))
}

// TestP16_3NoTypeNoColumn holds that codes meet neither error over rows that fit.
func TestP16_3NoTypeNoColumn(t *testing.T) {
	g := newMaker(163)
	evaluated := 0
	for range 20000 {
		x, e := bind.Bind(g.statement(), sample())
		if e != api.OK {
			continue
		}
		var over [][]api.Value
		for _, table := range x.Tables {
			var row []api.Value
			for _, c := range table.Cols {
				row = append(row, pick(g, g.values(c)...))
			}
			if e := rows.Fit(table.Cols, row); e != api.OK {
				t.Fatalf("%v: %d", row, e)
			}
			over = append(over, row)
		}
		for _, c := range codesOf(x) {
			evaluated++
			if v, e := expr.Eval(c, over); e == api.ErrType || e == api.ErrColumn || v.Kind != api.Null && v.Kind != c.Type {
				t.Errorf("%+v over %v: %v, %d", c, over, v, e)
			}
		}
	}
	if evaluated < 10000 {
		t.Errorf("%d codes", evaluated)
	}
}

// span is where a list lies, its spare room too.
type span struct{ from, end uintptr }

// spans adds all lists that a value has in it.
func spans(v reflect.Value, list *[]span) {
	switch v.Kind() {
	case reflect.Slice:
		if v.Cap() > 0 {
			*list = append(*list, span{v.Pointer(), v.Pointer() + uintptr(v.Cap())*v.Type().Elem().Size()})
		}
		for i := range v.Len() {
			spans(v.Index(i), list)
		}
	case reflect.Struct:
		for i := range v.NumField() {
			spans(v.Field(i), list)
		}
	}
}

// apart tells whether no two lists of these share memory.
func apart(things ...any) bool {
	var list []span
	for _, thing := range things {
		spans(reflect.ValueOf(thing), &list)
	}
	slices.SortFunc(list, func(a, b span) int { return int(int64(a.from) - int64(b.from)) })
	for i := 1; i < len(list); i++ {
		if list[i].from < list[i-1].end {
			return false
		}
	}
	return true
}

// roomy gives a deep copy whose lists have spare room, in which something stands.
func roomy(v reflect.Value) reflect.Value {
	c := reflect.New(v.Type()).Elem()
	switch v.Kind() {
	case reflect.Slice:
		if v.Len() == 0 {
			return c
		}
		n := v.Len()
		c.Set(reflect.MakeSlice(v.Type(), n+2, n+2))
		for i := range n + 2 {
			c.Index(i).Set(roomy(v.Index(i % n)))
		}
		return c.Slice(0, n)
	case reflect.Struct:
		for i := range v.NumField() {
			c.Field(i).Set(roomy(v.Field(i)))
		}
		return c
	}
	c.Set(v)
	return c
}

// whole reads a value out, the spare room of its lists too.
func whole(v reflect.Value) string {
	switch v.Kind() {
	case reflect.Slice:
		s := fmt.Sprint(v.Len(), v.Cap(), "[")
		for i, all := 0, v.Slice(0, v.Cap()); i < all.Len(); i++ {
			s += whole(all.Index(i)) + " "
		}
		return s + "]"
	case reflect.Struct:
		s := "{"
		for i := range v.NumField() {
			s += whole(v.Field(i)) + " "
		}
		return s + "}"
	}
	return fmt.Sprint(v)
}

// TestP16_3Memory holds that answers are new memory, and that what is handed in stays as it is.
func TestP16_3Memory(t *testing.T) {
	g := newMaker(1630)
	for range 3000 {
		st, all := roomy(reflect.ValueOf(g.statement())).Interface().(api.Stmt), roomy(reflect.ValueOf(sample())).Interface().([]api.Table)
		before := whole(reflect.ValueOf(st)) + whole(reflect.ValueOf(all))
		x, e := bind.Bind(st, all)
		y, again := bind.Bind(st, all)
		names, _ := bind.Needs(st)
		more, _ := bind.Needs(st)
		if !same(x, y) || e != again {
			t.Errorf("%+v: %+v, %d, then %+v, %d", st, x, e, y, again)
		}
		if whole(reflect.ValueOf(st))+whole(reflect.ValueOf(all)) != before {
			t.Errorf("%+v: what was handed in is changed", st)
		}
		if !apart(st, all, x, y, names, more) {
			t.Errorf("%+v: lists share memory", st)
		}
	}
}

// spoil puts numbers and names that aren't right into descriptions.
func spoil(g *maker, all []api.Table) []api.Table {
	names := []string{"", "t", "u", "a", "b", "i", "systables", "syscolumns", "\xff"}
	for range 1 + g.IntN(6) {
		x := &all[g.IntN(len(all))]
		switch g.IntN(6) {
		case 0:
			x.Name = pick(g, names...)
		case 1:
			x.Cols = append(x.Cols, api.Column{Name: pick(g, names...), Type: pick(g, -1, 0, 1, 4, 5, math.MaxInt)})
		case 2:
			x.Cols = x.Cols[:g.IntN(len(x.Cols)+1)]
		case 3:
			x.Indexes = append(x.Indexes, api.Index{Name: pick(g, names...), Cols: []int{pick(g, -1, 0, 99, math.MinInt)}})
		case 4:
			all = append(all, *x)
		case 5:
			all = all[:1+g.IntN(len(all))]
		}
	}
	return all
}

// TestP1P16_1WrongTables holds that Bind ends without a panic over descriptions that aren't right, and answers nothing beside an error.
func TestP1P16_1WrongTables(t *testing.T) {
	g := newMaker(1)
	for range 10000 {
		st, all := g.statement(), spoil(g, sample())
		x, e := bind.Bind(st, all)
		if y, again := bind.Bind(st, all); e != again || !same(x, y) {
			t.Errorf("%+v over %+v: %+v, %d, then %+v, %d", st, all, x, e, y, again)
		}
		if e != api.OK && !same(x, api.Term{}) {
			t.Errorf("%+v over %+v: %+v beside %d", st, all, x, e)
		}
	}
	for _, all := range [][]api.Table{nil, {}, {{}}, {{Name: "t"}}, make([]api.Table, 1000)} {
		for range 300 {
			bind.Bind(g.statement(), all)
		}
	}
}

// TestP1P16_1WrongStatements holds that Bind and Needs end without a panic at statements that aren't right.
func TestP1P16_1WrongStatements(t *testing.T) {
	g := newMaker(2)
	refused := 0
	for range 10000 {
		st, from := g.statement(), g.statement()
		switch g.IntN(6) {
		case 0:
			st.Kind = g.IntN(14) - 1
		case 1:
			st.Table, st.Index = from.Table, from.Index
		case 2:
			st.From, st.Items = from.From, from.Items
		case 3:
			st.Sets, st.Where = from.Sets, from.Where
		case 4:
			st.Names, st.Cols, st.Rows = from.Names, from.Cols, from.Rows
		case 5:
			st.Where = pick(g, api.Expr{Op: -1}, api.Expr{Op: api.OpAdd}, api.Expr{Op: api.OpConst, Kind: 9}, api.Expr{Op: api.OpConst, Kind: api.Real}, api.Expr{Op: api.OpColumn}, api.Expr{Num: 1})
		}
		bind.Needs(st)
		want := show.Check(st)
		if want == api.OK {
			continue
		}
		refused++
		check(t, "", st, sample(), api.Term{}, want)
	}
	if refused < 2000 {
		t.Errorf("%d refused", refused)
	}
}
