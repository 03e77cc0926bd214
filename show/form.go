package show

import (
	"strconv"
	"strings"

	"hasp/api"
)

// commas gives the texts of a list's elements, with commas between.
func commas[T any](list []T, text func(T) string) string {
	var b strings.Builder
	for i, element := range list {
		if i > 0 {
			b.WriteString(", ")
		}
		b.WriteString(text(element))
	}
	return b.String()
}

// enclosed gives the texts of a list's elements between parentheses.
func enclosed[T any](list []T, text func(T) string) string { return "(" + commas(list, text) + ")" }

// itself gives a name's text.
func itself(name string) string { return name }

// statementText gives the form of a right statement.
func statementText(st api.Stmt) string {
	switch st.Kind {
	case api.StCreateTable:
		return "CREATE TABLE " + st.Table + " " + enclosed(st.Cols, columnText)
	case api.StDropTable:
		return "DROP TABLE " + st.Table
	case api.StCreateIndex:
		return createIndexText(st)
	case api.StDropIndex:
		return "DROP INDEX " + st.Index
	case api.StInsert:
		return "INSERT INTO " + st.Table + " VALUES " + commas(st.Rows, rowText)
	case api.StSelect:
		return queryText(st)
	case api.StUpdate:
		return "UPDATE " + st.Table + " SET " + commas(st.Sets, setText) + whereText(st.Where)
	case api.StDelete:
		return "DELETE FROM " + st.Table + whereText(st.Where)
	case api.StBegin:
		return "BEGIN"
	case api.StCommit:
		return "COMMIT"
	}
	return "ROLLBACK"
}

func createIndexText(st api.Stmt) string {
	what := "CREATE INDEX "
	if st.Unique {
		what = "CREATE UNIQUE INDEX "
	}
	return what + st.Index + " ON " + st.Table + " " + enclosed(st.Names, itself)
}

func queryText(st api.Stmt) string {
	text := "SELECT *"
	if len(st.Items) > 0 {
		text = "SELECT " + commas(st.Items, itemText)
	}
	text += " FROM " + sourceText(st.From[0])
	for _, joined := range st.From[1:] {
		text += " INNER JOIN " + sourceText(joined) + " ON " + exprText(joined.On)
	}
	text += whereText(st.Where)
	if len(st.Order) > 0 {
		text += " ORDER BY " + commas(st.Order, sortText)
	}
	return text
}

func columnText(c api.Column) string {
	text := c.Name + " " + typeText(c.Type)
	if c.Required {
		text += " NOT NULL"
	}
	return text
}

func typeText(kind int) string {
	switch kind {
	case api.Bool:
		return "BOOL"
	case api.Int:
		return "INT"
	case api.Real:
		return "REAL"
	}
	return "TEXT"
}

func rowText(row []api.Expr) string { return enclosed(row, exprText) }

func itemText(i api.Item) string { return exprText(i.E) + aliasText(i.Name) }

func sourceText(s api.Source) string { return s.Table + aliasText(s.Alias) }

func aliasText(name string) string {
	if name == "" {
		return ""
	}
	return " AS " + name
}

// whereText gives the form of a condition; there may be none.
func whereText(e api.Expr) string {
	if e.Op == 0 {
		return ""
	}
	return " WHERE " + exprText(e)
}

func sortText(s api.Sort) string {
	if s.Desc {
		return exprText(s.E) + " DESC"
	}
	return exprText(s.E)
}

func setText(s api.Set) string { return s.Col + " = " + exprText(s.E) }

// exprText gives the form of a right expression.
func exprText(e api.Expr) string {
	switch e.Op {
	case api.OpConst:
		return constantText(e)
	case api.OpColumn:
		if e.Qual == "" {
			return e.Text
		}
		return e.Qual + "." + e.Text
	}
	first := exprText(e.Args[0])
	switch e.Op {
	case api.OpToInt:
		return "INT(" + first + ")"
	case api.OpToReal:
		return "REAL(" + first + ")"
	case api.OpNeg:
		return "(- " + first + ")"
	case api.OpNot:
		return "(NOT " + first + ")"
	case api.OpIsNull:
		return "(" + first + " IS NULL)"
	case api.OpNotNull:
		return "(" + first + " IS NOT NULL)"
	}
	return "(" + first + " " + operatorText(e.Op) + " " + exprText(e.Args[1]) + ")"
}

// operatorText gives an operator that stands between two operands.
func operatorText(op int) string {
	switch op {
	case api.OpEq:
		return "="
	case api.OpNe:
		return "<>"
	case api.OpLt:
		return "<"
	case api.OpLe:
		return "<="
	case api.OpGt:
		return ">"
	case api.OpGe:
		return ">="
	case api.OpAdd:
		return "+"
	case api.OpSub:
		return "-"
	case api.OpMul:
		return "*"
	case api.OpDiv:
		return "/"
	case api.OpMod:
		return "%"
	case api.OpCat:
		return "||"
	case api.OpAnd:
		return "AND"
	}
	return "OR"
}

func constantText(e api.Expr) string {
	switch e.Kind {
	case api.Bool:
		if e.Num == 0 {
			return "FALSE"
		}
		return "TRUE"
	case api.Int:
		return strconv.FormatInt(e.Num, 10)
	case api.Real:
		return realText(e.Num, e.Scale)
	case api.Text:
		return "'" + strings.ReplaceAll(e.Text, "'", "''") + "'"
	}
	return "NULL"
}

// realText gives the form of a real, with one digit ahead of the point at least.
func realText(num int64, scale int) string {
	switch scale {
	case api.ScaleNaN:
		return "NAN"
	case api.ScaleInf:
		return "INFINITY"
	}
	digits := strconv.FormatInt(num, 10)
	digits = strings.Repeat("0", max(0, scale+1-len(digits))) + digits
	point := len(digits) - scale
	return digits[:point] + "." + digits[point:]
}
