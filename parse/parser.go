package parse

import (
	"hasp/api"
	"hasp/lex"
)

// parser goes through the tokens of a statement, and gives up at the first fault.
type parser struct {
	rest    []api.Token
	open    int // parentheses of the expression that is being read
	deepest int // the greatest depth of the expressions read so far
}

// take passes over a token, and gives it; behind the last one there is a token of no kind.
func (p *parser) take() api.Token {
	if len(p.rest) == 0 {
		return api.Token{}
	}
	t := p.rest[0]
	p.rest = p.rest[1:]
	return t
}

// at tells whether a word or a sign comes next; a text that reads alike is none.
func (p *parser) at(word string) bool {
	return len(p.rest) > 0 && p.rest[0].Text == word && p.rest[0].Kind != api.TokText
}

// found passes over a word or a sign, if it comes next.
func (p *parser) found(word string) bool {
	if !p.at(word) {
		return false
	}
	p.take()
	return true
}

// need passes over words and signs that must stand there.
func (p *parser) need(words ...string) {
	for _, word := range words {
		must(p.found(word), api.ErrSyntax)
	}
}

// name passes over a name that must stand there, and gives it.
func (p *parser) name() string {
	t := p.take()
	must(t.Kind == api.TokWord && lex.Name(t.Text), api.ErrSyntax)
	return t.Text
}

// list reads what one reads, with commas between; no comma may stand behind as many as most.
func list[T any](p *parser, one func() T, most int) []T {
	all := []T{one()}
	for p.found(",") {
		must(len(all) < most, api.ErrMany)
		all = append(all, one())
	}
	return all
}

// enclosed reads a list between parentheses.
func enclosed[T any](p *parser, one func() T, most int) []T {
	p.need("(")
	all := list(p, one, most)
	p.need(")")
	return all
}
