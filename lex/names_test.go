package lex_test

import (
	"regexp"
	"slices"
	"strings"
	"testing"

	"hasp/api"
	"hasp/lex"
)

func TestP12_2Reserved(t *testing.T) {
	list := strings.Fields(reserved)
	for _, w := range list {
		if !lex.Reserved(w) {
			t.Errorf("Reserved(%q)", w)
		}
		for _, other := range []string{strings.ToUpper(w), strings.ToUpper(w[:1]) + w[1:], w + " ", " " + w, w + "x", "x" + w, w + "_", w + "\x00", w[1:], w[:len(w)-1]} {
			if lex.Reserved(other) != slices.Contains(list, other) {
				t.Errorf("Reserved(%q)", other)
			}
		}
	}
	for _, w := range []string{"", "a", "asc", "count", "like", "between", "primary", "key", "integer", "boolean", "varchar", "limit", "distinct", "group", "having", "left", "outer", "start", "abort", "infinit", "_", "1", "'and'", reserved} {
		if lex.Reserved(w) {
			t.Errorf("Reserved(%q)", w)
		}
	}
}

func TestP12_2Name(t *testing.T) {
	for _, c := range []struct {
		s    string
		want bool
	}{
		{"a", true}, {"z", true}, {"_", true}, {"__", true}, {"a1", true}, {"_1", true}, {"order_", true}, {"asc", true}, {"systables", true}, {strings.Repeat("a", 32), true}, {strings.Repeat("_", 32), true}, {"a" + strings.Repeat("9", 31), true},
		{"", false}, {strings.Repeat("a", 33), false}, {"a" + strings.Repeat("9", 32), false}, {strings.Repeat("a", 1000000), false}, {"A", false}, {"aB", false}, {"tablE", false}, {"1", false}, {"1a", false}, {"a b", false}, {" a", false}, {"a ", false}, {"a\n", false}, {"a.b", false}, {"'a'", false}, {"a\x00", false}, {"ä", false}, {"a\xff", false}, {"(", false}, {"-a", false},
	} {
		if lex.Name(c.s) != c.want {
			t.Errorf("Name(%s) isn't %v", short(c.s), c.want)
		}
	}
	for _, w := range strings.Fields(reserved) {
		if lex.Name(w) || lex.Name(strings.ToUpper(w)) || !lex.Name(w+"_") || !lex.Name("_"+w) {
			t.Errorf("Name of %q and what is like it", w)
		}
	}
}

// TestP12_2AllShortNames goes through all texts of up to two bytes.
func TestP12_2AllShortNames(t *testing.T) {
	name := regexp.MustCompile(`^[a-z_][a-z_0-9]*$`)
	for a := range 256 {
		for b := -1; b < 256; b++ {
			s := string([]byte{byte(a)})
			if b >= 0 {
				s = string([]byte{byte(a), byte(b)})
			}
			want := name.MatchString(s) && !slices.Contains(strings.Fields(reserved), s)
			if lex.Name(s) != want {
				t.Errorf("Name(%q) isn't %v", s, want)
			}
			list, code := lex.Tokens(s)
			if want != (code == api.OK && slices.Equal(list, tokens(word(s))) && !lex.Reserved(s)) {
				t.Errorf("%q: Name is %v, Tokens %v, %d", s, want, list, code)
			}
		}
	}
}

// samples has tokens of all kinds, with their texts.
func samples() ([]string, []api.Token) {
	list, made := strings.Fields(signs), []api.Token{}
	for _, s := range list {
		made = append(made, sign(s))
	}
	list = append(list, "a", "Select", "_1", "0", "12", "7.50", "0.0", "''", "'it''s'", "' '")
	return list, append(made, word("a"), word("select"), word("_1"), whole(0), whole(12), point(750, 2), point(0, 1), text(""), text("it's"), text(" "))
}

func TestP12_3Blanks(t *testing.T) {
	list, made := samples()
	for i, a := range list {
		for j, b := range list {
			want := tokens(made[i], made[j])
			for _, blank := range []string{" ", "\t", "\n", "\r", "\r\n", "    ", "\n\t \r"} {
				hold(t, a+blank+b, want)
				hold(t, blank+a+blank+b+blank, want)
			}
			if !grows(made[i], made[j]) {
				hold(t, a+b, want)
			}
		}
	}
}

// grows tells whether a token takes up what stands right behind it.
func grows(a, b api.Token) bool {
	digits := b.Kind == api.TokInt || b.Kind == api.TokReal
	switch a.Kind {
	case api.TokWord:
		return b.Kind == api.TokWord || digits
	case api.TokInt, api.TokReal:
		return digits
	case api.TokText:
		return b.Kind == api.TokText
	}
	pair := a.Text + b.Text
	return b.Kind == api.TokSign && len(a.Text) == 1 && slices.Contains([]string{"<>", "<=", ">="}, pair[:2])
}

func TestP12_3Together(t *testing.T) {
	hold(t, "ab", tokens(word("ab")))
	hold(t, "a1", tokens(word("a1")))
	hold(t, "12", tokens(whole(12)))
	hold(t, "12.5", tokens(point(125, 1)))
	hold(t, "<>", tokens(sign("<>")))
	hold(t, "1a", tokens(whole(1), word("a")))
	hold(t, "1.5a", tokens(point(15, 1), word("a")))
	hold(t, "a'b'1'c'd", tokens(word("a"), text("b"), whole(1), text("c"), word("d")))
	hold(t, "selecta,bfromt", tokens(word("selecta"), sign(","), word("bfromt")))
}

func TestP12_3NewMemory(t *testing.T) {
	const s = "Select a, b FROM t WHERE x <> 'it''s' AND y = 7.50"
	first, _ := lex.Tokens(s)
	want := slices.Clone(first)
	second, _ := lex.Tokens(s)
	clear(second[:cap(second)])
	if !slices.Equal(first, want) {
		t.Errorf("what was written over the second answer is in the first one: %v", first)
	}
	third, _ := lex.Tokens(s)
	if !slices.Equal(third, want) {
		t.Errorf("what was written over the second answer is in the third one: %v", third)
	}
}

func TestP1P2AnyArguments(t *testing.T) {
	list, _ := samples()
	list = append(list, "", "|", "'", "\x00", "\xff\xfe", strings.Repeat("a", 33), strings.Repeat("9", 20), strings.Repeat("(", 4000), strings.Repeat("'", 4001), strings.Repeat("\xff", 1<<20))
	type answer struct {
		tokens         []api.Token
		code           api.Errno
		reserved, name bool
	}
	do := func(s string) answer {
		list, code := lex.Tokens(s)
		return answer{list, code, lex.Reserved(s), lex.Name(s)}
	}
	var first []answer
	for _, s := range list {
		first = append(first, do(s))
	}
	for i, s := range slices.Backward(list) {
		got, want := do(s), first[i]
		if !slices.Equal(got.tokens, want.tokens) || got.code != want.code || got.reserved != want.reserved || got.name != want.name {
			t.Errorf("%s: %v, then %v", short(s), want, got)
		}
		if got.code != api.OK && got.tokens != nil {
			t.Errorf("%s: tokens beside an error", short(s))
		}
	}
}
