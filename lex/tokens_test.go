package lex_test

import (
	"math"
	"math/rand/v2"
	"slices"
	"strings"
	"testing"

	"hasp/api"
	"hasp/lex"
)

func TestP12_1Examples(t *testing.T) {
	hold(t, "SELECT a.B<>'it''s' 7.50", tokens(word("select"), word("a"), sign("."), word("b"), sign("<>"), text("it's"), point(750, 2)))
	hold(t, "12.x", tokens(whole(12), sign("."), word("x")))
	hold(t, "1e5", tokens(whole(1), word("e5")))
}

func TestP12_1Kinds(t *testing.T) {
	for s, want := range map[string][]api.Token{
		"":                   nil,
		" \t\r\n":            nil,
		"a":                  tokens(word("a")),
		"_":                  tokens(word("_")),
		"aZ_09":              tokens(word("az_09")),
		"_9a":                tokens(word("_9a")),
		"WHERE":              tokens(word("where")),
		"ABCDEFGHIJKLMNOPQR": tokens(word("abcdefghijklmnopqr")),
		"STUVWXYZ":           tokens(word("stuvwxyz")),
		"nan":                tokens(word("nan")),
		"0":                  tokens(whole(0)),
		"007":                tokens(whole(7)),
		"1234567890":         tokens(whole(1234567890)),
		"-5":                 tokens(sign("-"), whole(5)),
		"1.":                 tokens(whole(1), sign(".")),
		".5":                 tokens(sign("."), whole(5)),
		"1..5":               tokens(whole(1), sign("."), sign("."), whole(5)),
		"1. 5":               tokens(whole(1), sign("."), whole(5)),
		"1 .5":               tokens(whole(1), sign("."), whole(5)),
		"1.5.":               tokens(point(15, 1), sign(".")),
		"1.5.5":              tokens(point(15, 1), sign("."), whole(5)),
		"1.5.5.5":            tokens(point(15, 1), sign("."), point(55, 1)),
		"0.0":                tokens(point(0, 1)),
		"007.0":              tokens(point(70, 1)),
		"0.050":              tokens(point(50, 3)),
		"7.5e3":              tokens(point(75, 1), word("e3")),
		"a1.5":               tokens(word("a1"), sign("."), whole(5)),
		"a1 .5":              tokens(word("a1"), sign("."), whole(5)),
		"''":                 tokens(text("")),
		"''''":               tokens(text("'")),
		"''''''":             tokens(text("''")),
		"'a''b'":             tokens(text("a'b")),
		"'a' 'b'":            tokens(text("a"), text("b")),
		"'''a'''":            tokens(text("'a'")),
		"'A b\tC'":           tokens(text("A b\tC")),
		"'a\n\x00\xff\"--'":  tokens(text("a\n\x00\xff\"--")),
		"'Größe'":            tokens(text("Größe")),
		"x'y'z":              tokens(word("x"), text("y"), word("z")),
		"<>=":                tokens(sign("<>"), sign("=")),
		"<=>":                tokens(sign("<="), sign(">")),
		">=<":                tokens(sign(">="), sign("<")),
		"><":                 tokens(sign(">"), sign("<")),
		"=<=":                tokens(sign("="), sign("<=")),
		"==":                 tokens(sign("="), sign("=")),
		"< >":                tokens(sign("<"), sign(">")),
		"<<>>":               tokens(sign("<"), sign("<>"), sign(">")),
		"||||":               tokens(sign("||"), sign("||")),
		"--/*":               tokens(sign("-"), sign("-"), sign("/"), sign("*")),
	} {
		hold(t, s, want)
	}
	for _, s := range strings.Fields(signs) {
		hold(t, s, tokens(sign(s)))
		hold(t, "a"+s+"a", tokens(word("a"), sign(s), word("a")))
	}
}

func TestP12_1Statement(t *testing.T) {
	hold(t, "INSERT INTO t\r\n\tVALUES(1,-2.5,'O''Neill',NULL), (Count % 3, x||y)", tokens(
		word("insert"), word("into"), word("t"), word("values"),
		sign("("), whole(1), sign(","), sign("-"), point(25, 1), sign(","), text("O'Neill"), sign(","), word("null"), sign(")"), sign(","),
		sign("("), word("count"), sign("%"), whole(3), sign(","), word("x"), sign("||"), word("y"), sign(")")))
}

func TestP12_1Words(t *testing.T) {
	for _, c := range []string{"a", "Z", "_"} {
		hold(t, strings.Repeat(c, 32), tokens(word(strings.ToLower(strings.Repeat(c, 32)))))
		fail(t, strings.Repeat(c, 33), api.ErrWord)
		fail(t, c+strings.Repeat("0", 32), api.ErrWord)
	}
	fail(t, strings.Repeat("a", 4000), api.ErrWord)
	hold(t, "1"+strings.Repeat("a", 32), tokens(whole(1), word(strings.Repeat("a", 32))))
}

func TestP12_1Ints(t *testing.T) {
	hold(t, "9223372036854775807", tokens(whole(math.MaxInt64)))
	hold(t, "1000000000000000000", tokens(whole(1e18)))
	hold(t, "0000000000000000001", tokens(whole(1)))
	hold(t, strings.Repeat("0", 19), tokens(whole(0)))
	hold(t, "1234567890123456.x", tokens(whole(1234567890123456), sign("."), word("x")))
	for _, s := range []string{"9223372036854775808", "9999999999999999999", strings.Repeat("0", 20), "00000000000000000001", "18446744073709551617", strings.Repeat("9", 4000), "-9223372036854775808"} {
		fail(t, s, api.ErrNumber)
	}
}

func TestP12_1Reals(t *testing.T) {
	hold(t, "99999999999999.9", tokens(point(999999999999999, 1)))
	hold(t, "9.99999999999999", tokens(point(999999999999999, 14)))
	hold(t, "0.00000000000000", tokens(point(0, 14)))
	hold(t, "00000000000000.1", tokens(point(1, 1)))
	hold(t, "1234567.12345678", tokens(point(123456712345678, 8)))
	for _, s := range []string{"999999999999999.9", "9.999999999999999", "0.000000000000000", "000000000000000.1", "1.0000000000000000000", "1234567890123456789012.5", "0." + strings.Repeat("0", 3998), strings.Repeat("0", 3998) + ".0"} {
		fail(t, s, api.ErrNumber)
	}
}

func TestP12_1Texts(t *testing.T) {
	for _, c := range []string{"x", "\x00", "\xff", " "} {
		hold(t, "'"+strings.Repeat(c, 200)+"'", tokens(text(strings.Repeat(c, 200))))
		fail(t, "'"+strings.Repeat(c, 201)+"'", api.ErrLong)
		fail(t, "'"+strings.Repeat(c, 201), api.ErrQuote)
	}
	hold(t, "'"+strings.Repeat("''", 200)+"'", tokens(text(strings.Repeat("'", 200))))
	fail(t, "'"+strings.Repeat("''", 201)+"'", api.ErrLong)
	hold(t, "'"+strings.Repeat("x", 199)+"'''", tokens(text(strings.Repeat("x", 199)+"'")))
	fail(t, "'"+strings.Repeat("x", 200)+"'''", api.ErrLong)
	// Runes count by their bytes.
	hold(t, "'"+strings.Repeat("ö", 100)+"'", tokens(text(strings.Repeat("ö", 100))))
	fail(t, "'"+strings.Repeat("ö", 101)+"'", api.ErrLong)
	for _, s := range []string{"'", "'''", "'a", "'a''", "a'", "'a' '", "'a''b", "'a b", "'" + strings.Repeat("'", 3998), "'" + strings.Repeat("x", 3999), "'a\n"} {
		fail(t, s, api.ErrQuote)
	}
}

func TestP12_1EveryByte(t *testing.T) {
	for c := range 256 {
		s := string([]byte{byte(c)})
		hold(t, "'"+s+s+"'", tokens(text(strings.ReplaceAll(s+s, "''", "'"))))
		switch {
		case c >= 'a' && c <= 'z' || c == '_':
			hold(t, s, tokens(word(s)))
		case c >= 'A' && c <= 'Z':
			hold(t, s, tokens(word(string(rune(c+'a'-'A')))))
		case c >= '0' && c <= '9':
			hold(t, s, tokens(whole(int64(c-'0'))))
		case c == ' ' || c == '\t' || c == '\n' || c == '\r':
			hold(t, s, nil)
			hold(t, "a"+s+"a", tokens(word("a"), word("a")))
		case c == '\'':
			fail(t, s, api.ErrQuote)
		case slices.Contains(strings.Fields(signs), s):
			hold(t, s, tokens(sign(s)))
		default:
			fail(t, s, api.ErrSign)
			fail(t, "a"+s, api.ErrSign)
			fail(t, s+"a", api.ErrSign)
			fail(t, "1"+s+"1", api.ErrSign)
		}
	}
}

func TestP12_1FirstFault(t *testing.T) {
	faults := []struct {
		s    string
		code api.Errno
	}{
		{strings.Repeat("a", 33), api.ErrWord},
		{"9223372036854775808", api.ErrNumber},
		{strings.Repeat("0", 20), api.ErrNumber},
		{"0.000000000000000", api.ErrNumber},
		{"'" + strings.Repeat("x", 201) + "'", api.ErrLong},
		{"|", api.ErrSign},
		{";", api.ErrSign},
		{"\xc3\xa4", api.ErrSign},
		{"'", api.ErrQuote},
	}
	for _, a := range faults {
		fail(t, "a, 1 + 'x' "+a.s, a.code)
		for _, b := range faults {
			if a.code != api.ErrQuote {
				fail(t, a.s+" "+b.s, a.code)
			}
		}
		fail(t, a.s+strings.Repeat(" ", 4001), api.ErrLong)
	}
	fail(t, "' | ; ", api.ErrQuote)
	fail(t, "! 'a", api.ErrSign)
	fail(t, "|||", api.ErrSign)
	fail(t, "a!=b", api.ErrSign)
}

func TestP12_1Long(t *testing.T) {
	hold(t, strings.Repeat(" ", 4000), nil)
	hold(t, strings.Repeat("(", 4000), slices.Repeat(tokens(sign("(")), 4000))
	hold(t, strings.Repeat("a ", 2000), slices.Repeat(tokens(word("a")), 2000))
	for _, s := range []string{strings.Repeat(" ", 4001), strings.Repeat("(", 4001), strings.Repeat("'", 4001), strings.Repeat("a", 4001), strings.Repeat("\xff", 4001), strings.Repeat("9", 100000)} {
		fail(t, s, api.ErrLong)
	}
}

// TestP12_1AllShort holds all short rows of some bytes against the patterns.
func TestP12_1AllShort(t *testing.T) {
	row := make([]byte, 0, 5)
	var all func()
	all = func() {
		want, code := cut(string(row))
		if list, e := lex.Tokens(string(row)); e != code || !slices.Equal(list, want) {
			t.Fatalf("%q: %v, %d, not %v, %d", row, list, e, want, code)
		}
		if len(row) == cap(row) {
			return
		}
		for _, c := range []byte("aB_1.'<>=| (") {
			row = append(row, c)
			all()
			row = row[:len(row)-1]
		}
	}
	all()
}

// TestP12_1Mixed holds long rows of pieces against the patterns.
func TestP12_1Mixed(t *testing.T) {
	pieces := []string{"a", "Bc_9", "select", strings.Repeat("w", 16), "0", "17", "12345678", ".", ".", "'", "'", "''", strings.Repeat("x", 90), "<", ">", "=", "|", "||", "(", ")", ",", "*", "+", "-", "/", "%", " ", "\t", "\n", "\r", "\x00", "é", "\xff", ";"}
	r := rand.New(rand.NewPCG(12, 1))
	for range 100000 {
		// Few kinds of pieces in a row, that many rows have no fault.
		some := make([]string, 1+r.IntN(6))
		for i := range some {
			some[i] = pieces[r.IntN(len(pieces))]
		}
		var s strings.Builder
		for range r.IntN(30) {
			s.WriteString(some[r.IntN(len(some))])
		}
		want, code := cut(s.String())
		if list, e := lex.Tokens(s.String()); e != code || !slices.Equal(list, want) {
			t.Fatalf("%q: %v, %d, not %v, %d", s.String(), list, e, want, code)
		}
	}
}
