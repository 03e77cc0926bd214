package show

import (
	"hasp/api"
	"hasp/lex"
)

// The most digits of a real, and the greatest number that has no more.
const (
	maxDigits = 15
	maxReal   = 999999999999999
)

// span tells how many elements a list may have.
type span struct{ least, most int }

// shape tells what a kind of statement has: a list that it hasn't may have no elements.
type shape struct {
	table, index, unique, where                 bool
	cols, names, rows, items, from, order, sets span
}

// shapeOf gives the shape of a kind of statement, and whether there is such a kind.
func shapeOf(kind int) (shape, bool) {
	some := span{1, api.MaxList}
	switch kind {
	case api.StCreateTable:
		return shape{table: true, cols: span{1, api.MaxColumns}}, true
	case api.StDropTable:
		return shape{table: true}, true
	case api.StCreateIndex:
		return shape{table: true, index: true, unique: true, names: span{1, api.MaxKey}}, true
	case api.StDropIndex:
		return shape{index: true}, true
	case api.StInsert:
		return shape{table: true, rows: some}, true
	case api.StSelect:
		return shape{where: true, items: span{0, api.MaxList}, from: span{1, api.MaxFrom}, order: span{0, api.MaxList}}, true
	case api.StUpdate:
		return shape{table: true, sets: some, where: true}, true
	case api.StDelete:
		return shape{table: true, where: true}, true
	case api.StBegin, api.StCommit, api.StRollback:
		return shape{}, true
	}
	return shape{}, false
}

// rightStatement tells whether a statement is right.
func rightStatement(st api.Stmt) bool {
	has, known := shapeOf(st.Kind)
	return known &&
		rightName(st.Table, has.table) && rightName(st.Index, has.index) &&
		(has.unique || !st.Unique) &&
		rightList(st.Cols, has.cols, rightColumn) &&
		rightList(st.Names, has.names, lex.Name) &&
		rightList(st.Rows, has.rows, rightRow) &&
		rightList(st.Items, has.items, rightItem) &&
		rightList(st.From, has.from, rightSource) && rightJoins(st.From) &&
		rightList(st.Order, has.order, rightSort) &&
		rightList(st.Sets, has.sets, rightSet) &&
		(isNone(st.Where) || has.where && rightExpr(st.Where))
}

// rightName tells whether a text is a name where there is to be one, and empty where there isn't.
func rightName(s string, there bool) bool {
	if there {
		return lex.Name(s)
	}
	return s == ""
}

// mayBeName tells whether a text is empty or a name.
func mayBeName(s string) bool { return s == "" || lex.Name(s) }

// rightList tells whether a list has neither too few nor too many elements, and all of them are right.
func rightList[T any](list []T, has span, right func(T) bool) bool {
	if len(list) < has.least || len(list) > has.most {
		return false
	}
	for _, element := range list {
		if !right(element) {
			return false
		}
	}
	return true
}

func rightColumn(c api.Column) bool {
	switch c.Type {
	case api.Bool, api.Int, api.Real, api.Text:
		return lex.Name(c.Name)
	}
	return false
}

func rightRow(row []api.Expr) bool { return rightList(row, span{1, api.MaxList}, rightExpr) }

func rightItem(i api.Item) bool { return mayBeName(i.Name) && rightExpr(i.E) }

func rightSource(s api.Source) bool { return lex.Name(s.Table) && mayBeName(s.Alias) }

// rightJoins tells whether every source but the first one has a right condition.
func rightJoins(from []api.Source) bool {
	for i, s := range from {
		if i == 0 && !isNone(s.On) || i > 0 && !rightExpr(s.On) {
			return false
		}
	}
	return true
}

func rightSort(s api.Sort) bool { return rightExpr(s.E) }

func rightSet(s api.Set) bool { return lex.Name(s.Col) && rightExpr(s.E) }

// hasNoValue tells whether an expression has none of a constant's numbers.
func hasNoValue(e api.Expr) bool { return e.Kind == 0 && e.Num == 0 && e.Scale == 0 }

// hasNoText tells whether an expression has neither of its texts.
func hasNoText(e api.Expr) bool { return e.Text == "" && e.Qual == "" }

// isNone tells whether there is no expression.
func isNone(e api.Expr) bool {
	return e.Op == 0 && len(e.Args) == 0 && hasNoValue(e) && hasNoText(e)
}

// rightExpr tells whether an expression is right.
func rightExpr(e api.Expr) bool {
	switch e.Op {
	case api.OpConst:
		return len(e.Args) == 0 && e.Qual == "" && rightConstant(e)
	case api.OpColumn:
		return len(e.Args) == 0 && hasNoValue(e) && lex.Name(e.Text) && mayBeName(e.Qual)
	}
	n := operands(e.Op)
	return n > 0 && hasNoValue(e) && hasNoText(e) && rightList(e.Args, span{n, n}, rightExpr)
}

// rightConstant tells whether a constant's numbers and text are right.
func rightConstant(e api.Expr) bool {
	if e.Kind == api.Text {
		return e.Num == 0 && e.Scale == 0 && len(e.Text) <= api.MaxText
	}
	if e.Text != "" {
		return false
	}
	switch e.Kind {
	case api.Null:
		return e.Num == 0 && e.Scale == 0
	case api.Bool:
		return (e.Num == 0 || e.Num == 1) && e.Scale == 0
	case api.Int:
		return e.Num >= 0 && e.Scale == 0
	case api.Real:
		return rightReal(e.Num, e.Scale)
	}
	return false
}

// rightReal tells whether a real can be written. That its form has no more than maxDigits digits follows from the bounds of both numbers.
func rightReal(num int64, scale int) bool {
	if scale == api.ScaleNaN || scale == api.ScaleInf {
		return num == 0
	}
	return scale >= 1 && scale < maxDigits && num >= 0 && num <= maxReal
}

// operands tells how many operands an operator has: 0, if there is no such operator.
func operands(op int) int {
	switch {
	case op >= api.OpEq && op <= api.OpCat, op == api.OpAnd, op == api.OpOr:
		return 2
	case op >= api.OpNeg && op <= api.OpNot, op == api.OpIsNull, op == api.OpNotNull:
		return 1
	}
	return 0
}
