package lex

import (
	"bytes"
	"slices"
	"strconv"
	"strings"

	"hasp/api"
)

// The most digits of a number, zeros ahead of it too: layer 1 takes no more of a real.
const (
	maxInt  = 19
	maxReal = 15
)

// reader goes through the bytes of a statement.
type reader struct{ rest []byte }

// take passes over bytes, and gives them.
func (r *reader) take(n int) []byte {
	taken := r.rest[:n]
	r.rest = r.rest[n:]
	return taken
}

// pass passes over a run of bytes of a sort, and gives it.
func (r *reader) pass(is func(byte) bool) []byte { return r.take(run(r.rest, is)) }

// token reads the token with which the rest begins; there is a rest.
func (r *reader) token() (api.Token, api.Errno) {
	first := r.rest[0]
	switch {
	case beginsWord(first):
		return r.word()
	case isDigit(first):
		return r.number()
	case first == quote:
		return r.text()
	}
	return r.sign()
}

// word reads a word.
func (r *reader) word() (api.Token, api.Errno) {
	word := r.pass(inWord)
	if len(word) > api.MaxName {
		return api.Token{}, api.ErrWord
	}
	return api.Token{Kind: api.TokWord, Text: string(bytes.ToLower(word))}, api.OK
}

// number reads a number, with a point or without.
func (r *reader) number() (api.Token, api.Errno) {
	digits, most := r.pass(isDigit), maxInt
	t := api.Token{Kind: api.TokInt}
	if r.atFraction() {
		r.take(1)
		fraction := r.pass(isDigit)
		t = api.Token{Kind: api.TokReal, Scale: len(fraction)}
		digits, most = slices.Concat(digits, fraction), maxReal
	}
	n, err := strconv.ParseInt(string(digits), 10, 64)
	if err != nil || len(digits) > most {
		return api.Token{}, api.ErrNumber
	}
	t.Num = n
	return t, api.OK
}

// atFraction tells whether a point with a digit behind it comes next.
func (r *reader) atFraction() bool {
	return len(r.rest) > 1 && r.rest[0] == '.' && isDigit(r.rest[1])
}

// text reads a text; the quote at its beginning comes next.
func (r *reader) text() (api.Token, api.Errno) {
	r.take(1)
	text := slices.Clone(r.pass(isNoQuote))
	for len(r.rest) > 1 && r.rest[1] == quote {
		r.take(1)
		text = append(text, r.take(1)...)
		text = append(text, r.pass(isNoQuote)...)
	}
	switch {
	case len(r.rest) == 0:
		return api.Token{}, api.ErrQuote
	case len(text) > api.MaxText:
		return api.Token{}, api.ErrLong
	}
	r.take(1)
	return api.Token{Kind: api.TokText, Text: string(text)}, api.OK
}

// sign reads a sign.
func (r *reader) sign() (api.Token, api.Errno) {
	size := signSize(r.rest)
	if size == 0 {
		return api.Token{}, api.ErrSign
	}
	return api.Token{Kind: api.TokSign, Text: string(r.take(size))}, api.OK
}

// signSize tells how many bytes the sign has with which these begin: 0, if there is none.
func signSize(b []byte) int {
	if len(b) > 1 {
		switch string(b[:2]) {
		case "<>", "<=", ">=", "||":
			return 2
		}
	}
	if strings.IndexByte("(),.*+-/%=<>", b[0]) >= 0 {
		return 1
	}
	return 0
}
