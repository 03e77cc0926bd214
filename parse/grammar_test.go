package parse_test

import (
	"math/rand/v2"
	"regexp"
	"slices"
	"strconv"
	"strings"
	"testing"

	"hasp/api"
	"hasp/lex"
	"hasp/parse"
)

// grammar is the document's; a number behind { tells how often that may stand where there is a bound.
const grammar = `
statement = CREATE TABLE NAME "(" column {15 "," column } ")"
          | DROP TABLE NAME
          | CREATE [ UNIQUE ] INDEX NAME ON NAME "(" NAME {3 "," NAME } ")"
          | DROP INDEX NAME
          | INSERT INTO NAME VALUES row {49 "," row }
          | SELECT ( "*" | item {49 "," item } ) FROM source {3 [ INNER ] JOIN source ON expr } [ WHERE expr ] [ ORDER BY sort {49 "," sort } ]
          | UPDATE NAME SET NAME "=" expr {49 "," NAME "=" expr } [ WHERE expr ]
          | DELETE FROM NAME [ WHERE expr ]
          | BEGIN | COMMIT | ROLLBACK
column    = NAME ( INT | REAL | BOOL | TEXT ) [ NOT NULL ]
row       = "(" expr {49 "," expr } ")"
item      = expr [ AS NAME ]
source    = NAME [ AS NAME ]
sort      = expr [ DESC ]
expr      = both { OR both }
both      = not { AND not }
not       = NOT not | test
test      = sum [ ( "=" | "<>" | "<" | "<=" | ">" | ">=" ) sum | IS [ NOT ] NULL ]
sum       = term { ( "+" | "-" | "||" ) term }
term      = sign { ( "*" | "/" | "%" ) sign }
sign      = "-" sign | one
one       = number | text | NULL | TRUE | FALSE | NAN | INFINITY | NAME [ "." NAME ] | ( INT | REAL ) "(" expr ")" | "(" expr ")"
`

// node is a part of the grammar.
type node struct {
	kind  byte // s: parts one behind the other, |: one of them, [: it or nothing, {: any number of it, t: a token, r: a rule
	parts []*node
	name  string
	most  int  // of {: 0 is no bound
	inner bool // the parenthesis of an expression
}

// rules reads the grammar.
func rules() map[string]*node {
	all := map[string]*node{}
	for _, def := range regexp.MustCompile(`(?m)^\w+ *=`).FindAllStringIndex(grammar, -1) {
		name := strings.TrimSpace(strings.TrimSuffix(grammar[def[0]:def[1]], "="))
		rest := grammar[def[1]:]
		if next := regexp.MustCompile(`(?m)^\w+ *=`).FindStringIndex(rest); next != nil {
			rest = rest[:next[0]]
		}
		words := regexp.MustCompile(`"[^"]+"|\w+|\{\d+|\S`).FindAllString(rest, -1)
		n, left := choice(words, name == "one")
		if len(left) != 0 {
			panic("the grammar isn't read to its end: " + strings.Join(left, " "))
		}
		all[name] = n
	}
	return all
}

// choice reads parts with | between.
func choice(words []string, inner bool) (*node, []string) {
	n := &node{kind: '|'}
	for {
		row := &node{kind: 's'}
		for len(words) > 0 && !strings.Contains("|)]}", words[0]) {
			var part *node
			part, words = single(words, inner)
			row.parts = append(row.parts, part)
		}
		n.parts = append(n.parts, row)
		if len(words) == 0 || words[0] != "|" {
			return n, words
		}
		words = words[1:]
	}
}

// single reads one part.
func single(words []string, inner bool) (*node, []string) {
	w := words[0]
	switch {
	case w == "(" || w == "[" || w[0] == '{':
		body, rest := choice(words[1:], inner)
		most, _ := strconv.Atoi(w[1:])
		return &node{kind: map[byte]byte{'(': 's', '[': '[', '{': '{'}[w[0]], parts: []*node{body}, most: most}, rest[1:]
	case w[0] == '"':
		return &node{kind: 't', name: strings.Trim(w, `"`), inner: inner && w == `"("`}, words[1:]
	case w == strings.ToUpper(w) || w == "number" || w == "text":
		return &node{kind: 't', name: w}, words[1:]
	}
	return &node{kind: 'r', name: w}, words[1:]
}

// walk goes through the tokens of a statement, in every way that the grammar leaves.
type walk struct {
	rules       map[string]*node
	tokens      []api.Token
	lists, deep bool // the bounds of lists and of parentheses hold
	far         int  // the last place at which a token was asked for
}

// is tells whether a token is what the grammar says.
func is(t api.Token, name string) bool {
	switch {
	case name == "NAME":
		return t.Kind == api.TokWord && !lex.Reserved(t.Text)
	case name == "number":
		return t.Kind == api.TokInt || t.Kind == api.TokReal
	case name == "text":
		return t.Kind == api.TokText
	case t.Kind == api.TokWord:
		return lex.Reserved(t.Text) && strings.ToUpper(t.Text) == name
	}
	return t.Kind == api.TokSign && t.Text == name
}

// ends gives the places at which a part that begins at one can end.
func (w *walk) ends(n *node, at, open int) []int {
	switch n.kind {
	case 'r':
		return w.ends(w.rules[n.name], at, open)
	case 't':
		w.far = max(w.far, at)
		if at < len(w.tokens) && is(w.tokens[at], n.name) && !(n.inner && w.deep && open == 40) {
			return []int{at + 1}
		}
		return nil
	case '|':
		var all []int
		for _, part := range n.parts {
			all = append(all, w.ends(part, at, open)...)
		}
		return distinct(all)
	case '[':
		return distinct(append(w.ends(n.parts[0], at, open), at))
	case '{':
		return w.repeated(n, at, open)
	}
	all := []int{at}
	for _, part := range n.parts {
		var next []int
		for _, from := range all {
			next = append(next, w.ends(part, from, open)...)
		}
		all = distinct(next)
		if part.inner {
			open++
		}
	}
	return all
}

// repeated gives the places at which any number of a part can end.
func (w *walk) repeated(n *node, at, open int) []int {
	all, fresh := []int{at}, []int{at}
	for times := 0; len(fresh) > 0 && (n.most == 0 || !w.lists || times < n.most); times++ {
		var next []int
		for _, from := range fresh {
			next = append(next, w.ends(n.parts[0], from, open)...)
		}
		fresh = slices.DeleteFunc(distinct(next), func(end int) bool { return slices.Contains(all, end) })
		all = append(all, fresh...)
	}
	if len(fresh) > 0 {
		// The bound is met: the token that would go on is asked for all the same.
		w.far = max(w.far, slices.Max(fresh))
	}
	return distinct(all)
}

func distinct(list []int) []int {
	slices.Sort(list)
	return slices.Compact(list)
}

// wrong gives the place of the first token that the grammar doesn't want there: -1, if there is none.
func wrong(rules map[string]*node, tokens []api.Token, lists, deep bool) int {
	w := walk{rules: rules, tokens: tokens, lists: lists, deep: deep}
	if slices.Contains(w.ends(rules["statement"], 0, 0), len(tokens)) {
		return -1
	}
	return w.far
}

// judge tells a statement's error, by the grammar; only that of operators in one another isn't told.
func judge(rules map[string]*node, tokens []api.Token) api.Errno {
	at := wrong(rules, tokens, true, true)
	switch {
	case at < 0:
		return api.OK
	case wrong(rules, tokens, false, true) != at:
		return api.ErrMany
	case wrong(rules, tokens, true, false) != at:
		return api.ErrDeep
	}
	return api.ErrSyntax
}

// agree looks whether a text has the error that the grammar tells.
func agree(t *testing.T, rules map[string]*node, s string) api.Errno {
	t.Helper()
	tokens, code := lex.Tokens(s)
	if code == api.OK {
		code = judge(rules, tokens)
	}
	st, got := parse.Parse(s)
	// 40 operators in one another have 40 tokens at least, and one more.
	if code == api.OK && got == api.ErrDeep && len(tokens) > 41 {
		return got
	}
	if got != code || (st.Kind != 0) != (code == api.OK) {
		t.Errorf("%s: %d, not %d", short(s), got, code)
	}
	return got
}

// rows gives all rows of words up to a length.
func rows(words []string, most int, give func(string)) {
	var on func(string, int)
	on = func(row string, left int) {
		give(row)
		if left == 0 {
			return
		}
		for _, w := range words {
			on(row+" "+w, left-1)
		}
	}
	on("", most)
}

func TestP13_1AllShortExpressions(t *testing.T) {
	all := rules()
	good := 0
	rows(strings.Fields("a 1 'x' ( ) . - * = || and or not is null int ,"), 4, func(e string) {
		if agree(t, all, "DELETE FROM t WHERE"+e) == api.OK {
			good++
		}
	})
	if good < 400 {
		t.Errorf("only %d expressions are right", good)
	}
}

func TestP13_1AllShortStatements(t *testing.T) {
	all := rules()
	words := strings.Fields("create drop table index unique insert into values select from where order by update set delete begin commit rollback join inner on as desc int text not null a t * ( ) , = 1")
	rows(words, 3, func(s string) { agree(t, all, s) })
	for _, ahead := range []string{"create table t (", "create table t ( a int", "create unique index i", "create index i on t (", "insert into t values", "insert into t values ( 1", "select * from t", "select a", "select * from t join u", "select * from t join u on a", "select a from t order by a", "update t set", "update t set a = 1", "delete from t"} {
		rows(words, 2, func(s string) { agree(t, all, ahead+s) })
	}
}

// TestP13_1Spoilt holds statements in which some tokens go, come, or change against the grammar.
func TestP13_1Spoilt(t *testing.T) {
	all := rules()
	r := rand.New(rand.NewPCG(13, 1))
	met := map[api.Errno]int{}
	for range 20000 {
		g := &deriver{r: r, most: 1 + r.IntN(4)}
		words, _ := g.statement()
		for range r.IntN(3) {
			at := r.IntN(len(words))
			switch other := words[r.IntN(len(words))]; r.IntN(4) {
			case 0:
				words = slices.Delete(words, at, at+1)
			case 1:
				words = slices.Insert(words, at, other)
			case 2:
				words[at] = other
			case 3:
				words = words[:at+1]
			}
			if len(words) == 0 {
				break
			}
		}
		met[agree(t, all, strings.Join(words, " "))]++
	}
	for range 2000 {
		words := nearLimits(r)
		met[agree(t, all, strings.Join(words, " "))]++
	}
	for _, code := range []api.Errno{api.OK, api.ErrSyntax, api.ErrMany, api.ErrDeep} {
		if met[code] < 100 {
			t.Errorf("the error %d is met %d times", code, met[code])
		}
	}
}

// nearLimits gives a statement in which lists and parentheses are about as long and deep as they may be.
func nearLimits(r *rand.Rand) []string {
	c := lists[r.IntN(len(lists))]
	n := c.most - 1 + r.IntN(3)
	var b strings.Builder
	b.WriteString(c.ahead)
	for i := range n {
		if i > 0 {
			b.WriteString(c.between)
		}
		element := c.element
		if r.IntN(n) == 0 {
			deep := 39 + r.IntN(3)
			element = strings.Replace(element, "1", around(deep, "1"), 1)
		}
		b.WriteString(" " + element + " ")
	}
	b.WriteString(c.behind)
	words := strings.Fields(strings.NewReplacer("(", " ( ", ")", " ) ", ",", " , ", "=", " = ").Replace(b.String()))
	if r.IntN(3) == 0 {
		at := r.IntN(len(words))
		words = slices.Delete(words, at, at+1)
	}
	return words
}
