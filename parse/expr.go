package parse

import (
	"hasp/api"
	"hasp/lex"
)

// operator is an operator as it is written, and its number.
type operator struct {
	word string
	op   int
}

// made gives an operator with its operands.
func made(op int, operands ...api.Expr) api.Expr { return api.Expr{Op: op, Args: operands} }

// whole reads an expression that stands in no other one.
func (p *parser) whole() api.Expr {
	e := p.expr()
	p.deepest = max(p.deepest, Depth(e))
	return e
}

// which passes over one of these operators, if it comes next, and gives its number: else 0.
func (p *parser) which(operators ...operator) int {
	for _, o := range operators {
		if p.found(o.word) {
			return o.op
		}
	}
	return 0
}

// chain reads operands of the level below, with any number of these operators between; the left ones are done first.
func (p *parser) chain(below func() api.Expr, operators ...operator) api.Expr {
	e := below()
	for op := p.which(operators...); op != 0; op = p.which(operators...) {
		e = made(op, e, below())
	}
	return e
}

func (p *parser) expr() api.Expr { return p.chain(p.both, operator{"or", api.OpOr}) }

func (p *parser) both() api.Expr { return p.chain(p.not, operator{"and", api.OpAnd}) }

func (p *parser) not() api.Expr {
	if p.found("not") {
		return made(api.OpNot, p.not())
	}
	return p.test()
}

func (p *parser) test() api.Expr {
	e := p.sum()
	if p.found("is") {
		op := api.OpIsNull
		if p.found("not") {
			op = api.OpNotNull
		}
		p.need("null")
		return made(op, e)
	}
	op := p.which(
		operator{"=", api.OpEq}, operator{"<>", api.OpNe},
		operator{"<", api.OpLt}, operator{"<=", api.OpLe},
		operator{">", api.OpGt}, operator{">=", api.OpGe})
	if op != 0 {
		return made(op, e, p.sum())
	}
	return e
}

func (p *parser) sum() api.Expr {
	return p.chain(p.term, operator{"+", api.OpAdd}, operator{"-", api.OpSub}, operator{"||", api.OpCat})
}

func (p *parser) term() api.Expr {
	return p.chain(p.sign, operator{"*", api.OpMul}, operator{"/", api.OpDiv}, operator{"%", api.OpMod})
}

func (p *parser) sign() api.Expr {
	if p.found("-") {
		return made(api.OpNeg, p.sign())
	}
	return p.one()
}

// one reads a constant, a column, or what stands between parentheses.
func (p *parser) one() api.Expr {
	t := p.take()
	switch t.Kind {
	case api.TokInt:
		return api.Expr{Op: api.OpConst, Kind: api.Int, Num: t.Num}
	case api.TokReal:
		return api.Expr{Op: api.OpConst, Kind: api.Real, Num: t.Num, Scale: t.Scale}
	case api.TokText:
		return api.Expr{Op: api.OpConst, Kind: api.Text, Text: t.Text}
	case api.TokWord:
		return p.ofWord(t.Text)
	}
	must(t.Text == "(", api.ErrSyntax)
	return p.inner()
}

// ofWord reads what begins with a word; the word is passed.
func (p *parser) ofWord(word string) api.Expr {
	switch word {
	case "null":
		return api.Expr{Op: api.OpConst, Kind: api.Null}
	case "false":
		return api.Expr{Op: api.OpConst, Kind: api.Bool, Num: 0}
	case "true":
		return api.Expr{Op: api.OpConst, Kind: api.Bool, Num: 1}
	case "nan":
		return api.Expr{Op: api.OpConst, Kind: api.Real, Scale: api.ScaleNaN}
	case "infinity":
		return api.Expr{Op: api.OpConst, Kind: api.Real, Scale: api.ScaleInf}
	case "int":
		p.need("(")
		return made(api.OpToInt, p.inner())
	case "real":
		p.need("(")
		return made(api.OpToReal, p.inner())
	}
	must(lex.Name(word), api.ErrSyntax)
	if p.found(".") {
		return api.Expr{Op: api.OpColumn, Qual: word, Text: p.name()}
	}
	return api.Expr{Op: api.OpColumn, Text: word}
}

// inner reads what stands within a parenthesis, and the end of that; its beginning is passed.
func (p *parser) inner() api.Expr {
	must(p.open < api.MaxDepth, api.ErrDeep)
	p.open++
	e := p.expr()
	p.need(")")
	p.open--
	return e
}
