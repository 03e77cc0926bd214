package bind

import (
	"slices"

	"hasp/api"
	"hasp/arith"
	"hasp/real"
)

// infinity is the bits of the real that stands for it.
const infinity int64 = 0x7ff0000000000000

// source is a table under the name by which a statement calls it.
type source struct {
	name  string
	table api.Table
}

// scope is the sources whose columns an expression can name.
type scope []source

// under tells whether a source is under that name.
func (over scope) under(name string) bool {
	return slices.ContainsFunc(over, func(s source) bool { return s.name == name })
}

// code checks an expression, operands ahead of what is done with them.
func (over scope) code(e api.Expr) api.Code {
	switch e.Op {
	case api.OpConst:
		return api.Code{Op: api.OpConst, Type: e.Kind, Val: constant(e)}
	case api.OpColumn:
		return over.column(e.Qual, e.Text)
	}
	c := api.Code{Op: e.Op}
	var types []int
	for _, operand := range e.Args {
		arg := over.code(operand)
		c.Args, types = append(c.Args, arg), append(types, arg.Type)
	}
	kind, fits := answer(e.Op, types)
	must(fits, api.ErrType)
	c.Type = kind
	return c
}

// condition checks an expression that is to be a truth.
func (over scope) condition(e api.Expr) api.Code {
	c := over.code(e)
	must(isTruth(c.Type), api.ErrType)
	return c
}

// where checks the condition behind WHERE; there may be none.
func (over scope) where(e api.Expr) []api.Code {
	if e.Op == 0 {
		return nil
	}
	return []api.Code{over.condition(e)}
}

// stored checks an expression whose value is to stand in a column.
func (over scope) stored(e api.Expr, col api.Column) api.Code {
	c := over.code(e)
	must(c.Type == col.Type || c.Type == api.Null, api.ErrType)
	return c
}

// column finds the one column of that name: under a source's name, or in all of them.
func (over scope) column(qual, name string) api.Code {
	var found []api.Code
	for tab, s := range over {
		col := columnOf(s.table, name)
		if col >= 0 && (qual == "" || qual == s.name) {
			found = append(found, over.at(tab, col))
		}
	}
	must(len(found) > 0, api.ErrColumn)
	must(len(found) == 1, api.ErrAmbiguous)
	return found[0]
}

// at gives the code of a source's column.
func (over scope) at(tab, col int) api.Code {
	return api.Code{Op: api.OpColumn, Type: over[tab].table.Cols[col].Type, Tab: tab, Col: col}
}

// columns gives the codes of all columns of a source.
func (over scope) columns(tab int) []api.Code {
	var all []api.Code
	for col := range over[tab].table.Cols {
		all = append(all, over.at(tab, col))
	}
	return all
}

// constant gives the value of a constant.
func constant(e api.Expr) api.Value {
	if e.Kind != api.Real {
		return api.Value{Kind: e.Kind, Num: e.Num, Text: e.Text}
	}
	switch e.Scale {
	case api.ScaleNaN:
		return api.Value{Kind: api.Real, Num: real.NaN}
	case api.ScaleInf:
		return api.Value{Kind: api.Real, Num: infinity}
	}
	num, code := real.OfDecimal(e.Num, e.Scale)
	must(code == api.OK, code)
	return api.Value{Kind: api.Real, Num: num}
}

// isTruth tells whether a condition, or an operand of NOT, AND and OR, may be of this type.
func isTruth(kind int) bool { return kind == api.Bool || kind == api.Null }

// answer gives the type of an operator's answer; false, if it doesn't take operands of these types.
func answer(op int, types []int) (int, bool) {
	switch op {
	case api.OpEq, api.OpNe, api.OpLt, api.OpLe, api.OpGt, api.OpGe:
		return api.Bool, types[0] == types[1] || slices.Contains(types, api.Null)
	case api.OpNot, api.OpAnd, api.OpOr:
		return api.Bool, isTruth(types[0]) && isTruth(types[len(types)-1])
	case api.OpIsNull, api.OpNotNull:
		return api.Bool, true
	}
	return arith.Type(op, types)
}
