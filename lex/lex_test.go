package lex_test

import (
	"fmt"
	"math"
	"regexp"
	"slices"
	"strconv"
	"strings"
	"testing"

	"hasp/api"
	"hasp/lex"
)

// reserved has the reserved words as the document tells them.
const reserved = "and as begin bool by commit create delete desc drop false from index infinity inner insert int into is join nan not null on or order real rollback select set table text true unique update values where"

// signs has the signs as the document tells them.
const signs = "<> <= >= || ( ) , . * + - / % = < >"

func word(s string) api.Token { return api.Token{Kind: api.TokWord, Text: s} }

func whole(n int64) api.Token { return api.Token{Kind: api.TokInt, Num: n} }

func point(n int64, scale int) api.Token {
	return api.Token{Kind: api.TokReal, Num: n, Scale: scale}
}

func text(s string) api.Token { return api.Token{Kind: api.TokText, Text: s} }

func sign(s string) api.Token { return api.Token{Kind: api.TokSign, Text: s} }

// tokens gives a list as it is written out.
func tokens(list ...api.Token) []api.Token { return list }

// short gives a text that a failure can show.
func short(s string) string {
	if len(s) > 80 {
		return fmt.Sprintf("%q and on, %d bytes", s[:80], len(s))
	}
	return fmt.Sprintf("%q", s)
}

// hold looks whether a text has these tokens.
func hold(t *testing.T, s string, want []api.Token) {
	t.Helper()
	if list, code := lex.Tokens(s); code != api.OK || !slices.Equal(list, want) {
		t.Errorf("%s: %v, %d, not %v", short(s), list, code, want)
	}
}

// fail looks whether a text has this error.
func fail(t *testing.T, s string, want api.Errno) {
	t.Helper()
	if list, code := lex.Tokens(s); code != want || len(list) != 0 {
		t.Errorf("%s: %v, %d, not %d", short(s), list, code, want)
	}
}

// Patterns for a way of its own to the tokens; each is asked where a token may begin.
var (
	blanks = regexp.MustCompile(`^[ \t\n\r]+`)
	shapes = []struct {
		kind    int
		pattern *regexp.Regexp
	}{
		{api.TokWord, regexp.MustCompile(`^[A-Za-z_][A-Za-z_0-9]*`)},
		{api.TokReal, regexp.MustCompile(`^[0-9]+\.[0-9]+`)},
		{api.TokInt, regexp.MustCompile(`^[0-9]+`)},
		{api.TokText, regexp.MustCompile(`^'([^']|'')*('|$)`)},
		{api.TokSign, regexp.MustCompile(`^(<>|<=|>=|\|\||[(),.*+\-/%=<>])`)},
	}
)

// cut gives the tokens of a text, by the patterns.
func cut(s string) ([]api.Token, api.Errno) {
	if len(s) > 4000 {
		return nil, api.ErrLong
	}
	var list []api.Token
	for s = s[len(blanks.FindString(s)):]; s != ""; s = s[len(blanks.FindString(s)):] {
		kind, piece := 0, ""
		for _, shape := range shapes {
			if piece = shape.pattern.FindString(s); piece != "" {
				kind = shape.kind
				break
			}
		}
		token, code := made(kind, piece)
		if code != api.OK {
			return nil, code
		}
		list, s = append(list, token), s[len(piece):]
	}
	return list, api.OK
}

// made gives the token of a piece.
func made(kind int, piece string) (api.Token, api.Errno) {
	switch kind {
	case api.TokWord:
		if len(piece) > 32 {
			return api.Token{}, api.ErrWord
		}
		return word(strings.ToLower(piece)), api.OK
	case api.TokInt:
		n, err := strconv.ParseUint(piece, 10, 64)
		if len(piece) > 19 || err != nil || n > math.MaxInt64 {
			return api.Token{}, api.ErrNumber
		}
		return whole(int64(n)), api.OK
	case api.TokReal:
		ahead, behind, _ := strings.Cut(piece, ".")
		if len(piece) > 16 {
			return api.Token{}, api.ErrNumber
		}
		n, _ := strconv.Atoi(ahead + behind)
		return point(int64(n), len(behind)), api.OK
	case api.TokText:
		// Every text that is closed has an even number of quotes.
		if strings.Count(piece, "'")%2 != 0 {
			return api.Token{}, api.ErrQuote
		}
		inner := strings.ReplaceAll(piece[1:len(piece)-1], "''", "'")
		if len(inner) > 200 {
			return api.Token{}, api.ErrLong
		}
		return text(inner), api.OK
	case api.TokSign:
		return sign(piece), api.OK
	}
	return api.Token{}, api.ErrSign
}
