package sqlparse

import (
	"strconv"
	"strings"

	"cormorant/api"
)

// The levels of expressions: one of a lower level than is required stands in parentheses.
const (
	levelOr = 1 + iota
	levelAnd
	levelNot
	levelPred
	levelSum
	levelTerm
	levelNeg
	levelLast
)

// printer lays tokens down, a blank between two, unless they stand close.
type printer struct {
	b     strings.Builder
	close bool // the next one stands close to the last one
}

// Show is a statement's text.
func Show(s api.Stmt) (string, api.Errno) {
	if e := Right(s); e != api.OK {
		return "", e
	}
	p := &printer{close: true}
	p.stmt(s)
	if p.b.Len() > api.MaxSql {
		return "", api.ErrSqlLong
	}
	return p.b.String(), api.OK
}

// put lays tokens down.
func (p *printer) put(l ...string) {
	for _, t := range l {
		if !p.close && t != "," && t != ")" && t != "." {
			p.b.WriteByte(' ')
		}
		p.b.WriteString(t)
		p.close = t == "(" || t == "."
	}
}

// name lays a name down, in quotes where it needs them.
func (p *printer) name(name string) {
	if isPlain(name) {
		p.put(name)
	} else {
		p.put(`"` + strings.ReplaceAll(name, `"`, `""`) + `"`)
	}
}

func isPlain(name string) bool {
	for i, c := range []byte(name) {
		if (c < 'a' || c > 'z') && c != '_' && (!isDigit(c) || i == 0) {
			return false
		}
	}
	return !isWord(name)
}

// each lays parts down, with commas between.
func each[T any](p *printer, l []T, one func(x T)) {
	for i, x := range l {
		if i > 0 {
			p.put(",")
		}
		one(x)
	}
}

// inParens lays parts down in parentheses.
func inParens[T any](p *printer, l []T, one func(x T)) {
	p.put("(")
	each(p, l, one)
	p.put(")")
}

func (p *printer) stmt(s api.Stmt) {
	switch s.Kind {
	case api.StmtSelect:
		p.selected(s.Select)
	case api.StmtInsert:
		p.put("insert", "into")
		p.name(s.Table)
		if len(s.Columns) > 0 {
			inParens(p, s.Columns, p.name)
		}
		p.put("values")
		each(p, s.Rows, func(row []api.Expr) { inParens(p, row, p.expr) })
	case api.StmtUpdate:
		p.put("update")
		p.name(s.Table)
		p.put("set")
		each(p, s.Sets, func(x api.Set) {
			p.name(x.Column)
			p.put("=")
			p.expr(x.Expr)
		})
		p.optional("where", s.Where)
	case api.StmtDelete:
		p.put("delete", "from")
		p.name(s.Table)
		p.optional("where", s.Where)
	case api.StmtCreateTable:
		p.createTable(s)
	case api.StmtCreateIndex:
		p.createIndex(s.Index)
	case api.StmtDropTable:
		p.put("drop", "table")
		p.name(s.Table)
	case api.StmtDropIndex:
		p.put("drop", "index")
		p.name(s.Index.Name)
	case api.StmtBegin:
		p.put("begin")
	case api.StmtCommit:
		p.put("commit")
	case api.StmtRollback:
		p.put("rollback")
	}
}

func (p *printer) optional(word string, x api.Expr) {
	if x.Kind != 0 {
		p.put(word)
		p.expr(x)
	}
}

func (p *printer) alias(name string) {
	if name != "" {
		p.put("as")
		p.name(name)
	}
}

func (p *printer) selected(s api.Select) {
	p.put("select")
	if s.Distinct {
		p.put("distinct")
	}
	each(p, s.Items, p.item)
	for i, x := range s.From {
		p.source(i, x)
	}
	p.optional("where", s.Where)
	if len(s.Group) > 0 {
		p.put("group", "by")
		each(p, s.Group, p.expr)
	}
	p.optional("having", s.Having)
	if len(s.Order) > 0 {
		p.put("order", "by")
		each(p, s.Order, func(o api.Order) {
			p.expr(o.Expr)
			if o.Desc {
				p.put("desc")
			}
		})
	}
	if s.Limit >= 0 {
		p.put("limit", strconv.Itoa(s.Limit))
	}
	if s.Offset > 0 {
		p.put("offset", strconv.Itoa(s.Offset))
	}
}

func (p *printer) item(x api.Item) {
	if !x.Star {
		p.expr(x.Expr)
		p.alias(x.As)
		return
	}
	if x.Table != "" {
		p.name(x.Table)
		p.put(".")
	}
	p.put("*")
}

func (p *printer) source(i int, x api.Source) {
	switch {
	case i == 0:
		p.put("from")
	case x.Left:
		p.put("left", "join")
	case x.On.Kind == 0:
		p.put("cross", "join")
	default:
		p.put("join")
	}
	p.name(x.Table)
	p.alias(x.As)
	p.optional("on", x.On)
}

func (p *printer) createTable(s api.Stmt) {
	p.put("create", "table")
	p.name(s.Table)
	p.put("(")
	each(p, s.Cols, p.column)
	if len(s.Key) > 0 {
		p.put(",", "primary", "key")
		inParens(p, s.Key, p.name)
	}
	p.put(")")
}

func (p *printer) column(c api.ColumnDef) {
	p.name(c.Name)
	switch c.Type {
	case api.TypeInt:
		p.put("int")
	case api.TypeBool:
		p.put("bool")
	case api.TypeText:
		p.put("text")
	}
	if c.NotNull {
		p.put("not", "null")
	}
	if c.Key {
		p.put("primary", "key")
	}
	if c.Unique {
		p.put("unique")
	}
	p.optional("default", c.Default)
}

func (p *printer) createIndex(x api.IndexDef) {
	p.put("create")
	if x.Unique {
		p.put("unique")
	}
	p.put("index")
	p.name(x.Name)
	p.put("on")
	p.name(x.Table)
	inParens(p, x.Columns, p.name)
}

func (p *printer) expr(x api.Expr) { p.at(levelOr, x) }

func levelOf(kind int) int {
	switch kind {
	case api.ExprOr:
		return levelOr
	case api.ExprAnd:
		return levelAnd
	case api.ExprNot:
		return levelNot
	case api.ExprAdd, api.ExprSub, api.ExprConcat:
		return levelSum
	case api.ExprMul, api.ExprDiv, api.ExprMod:
		return levelTerm
	case api.ExprNeg:
		return levelNeg
	case api.ExprValue, api.ExprCol, api.ExprStar, api.ExprLength, api.ExprCase, api.ExprCoalesce, api.ExprAgg:
		return levelLast
	}
	return levelPred
}

// at lays an expression down where a level is required.
func (p *printer) at(level int, x api.Expr) {
	own := levelOf(x.Kind)
	if own < level {
		p.put("(")
		p.at(levelOr, x)
		p.put(")")
		return
	}
	switch own {
	case levelNot:
		p.put("not")
		p.at(levelNot, x.Args[0])
	case levelPred:
		p.pred(x)
	case levelNeg:
		p.put("-")
		p.close = true
		p.at(levelLast, x.Args[0])
	case levelLast:
		p.last(x)
	default:
		p.at(own, x.Args[0])
		p.put(operator(x.Kind))
		p.at(own+1, x.Args[1])
	}
}

func operator(kind int) string {
	names := [...]string{
		api.ExprAdd: "+", api.ExprSub: "-", api.ExprMul: "*", api.ExprDiv: "/", api.ExprMod: "%", api.ExprConcat: "||",
		api.ExprEq: "=", api.ExprNe: "<>", api.ExprLt: "<", api.ExprLe: "<=", api.ExprGt: ">", api.ExprGe: ">=",
		api.ExprAnd: "and", api.ExprOr: "or", api.ExprLike: "like",
	}
	return names[kind]
}

func (p *printer) pred(x api.Expr) {
	p.at(levelSum, x.Args[0])
	switch x.Kind {
	case api.ExprIsNull:
		p.put("is", "null")
	case api.ExprIsNotNull:
		p.put("is", "not", "null")
	case api.ExprIn:
		p.put("in")
		inParens(p, x.Args[1:], p.expr)
	case api.ExprBetween:
		p.put("between")
		p.at(levelSum, x.Args[1])
		p.put("and")
		p.at(levelSum, x.Args[2])
	default:
		p.put(operator(x.Kind))
		p.at(levelSum, x.Args[1])
	}
}

// last lays down what needs no parentheses.
func (p *printer) last(x api.Expr) {
	switch x.Kind {
	case api.ExprValue:
		p.put(literal(x.Value))
	case api.ExprCol:
		if x.Table != "" {
			p.name(x.Table)
			p.put(".")
		}
		p.name(x.Name)
	case api.ExprStar:
		p.put("*")
	case api.ExprLength:
		p.call("length", false, x.Args)
	case api.ExprCoalesce:
		p.call("coalesce", false, x.Args)
	case api.ExprAgg:
		p.call(x.Name, x.Distinct, x.Args)
	case api.ExprCase:
		p.cases(x.Args)
	}
}

func (p *printer) call(name string, distinct bool, args []api.Expr) {
	p.put(name)
	p.close = true
	p.put("(")
	if distinct {
		p.put("distinct")
	}
	each(p, args, p.expr)
	p.put(")")
}

func (p *printer) cases(l []api.Expr) {
	p.put("case")
	for len(l) > 1 {
		p.put("when")
		p.expr(l[0])
		p.put("then")
		p.expr(l[1])
		l = l[2:]
	}
	if len(l) > 0 {
		p.put("else")
		p.expr(l[0])
	}
	p.put("end")
}

func literal(v api.Value) string {
	switch {
	case v.Null:
		return "null"
	case v.Type == api.TypeInt:
		return strconv.FormatInt(v.Int, 10)
	case v.Type == api.TypeText:
		return "'" + strings.ReplaceAll(v.Text, "'", "''") + "'"
	case v.Int == 1:
		return "true"
	}
	return "false"
}
