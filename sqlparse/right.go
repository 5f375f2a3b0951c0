package sqlparse

import (
	"strings"

	"cormorant/api"
)

// size is how many parts and levels there are; wrong: something is no part of a statement.
type size struct {
	parts, depth int
	wrong        bool
}

// Right tells whether a statement may be.
func Right(s api.Stmt) api.Errno {
	c := measure(s)
	if c.wrong {
		return api.ErrSqlForm
	}
	if c.depth > api.MaxNest {
		return api.ErrSqlNest
	}
	if c.parts > api.MaxParts {
		return api.ErrSqlParts
	}
	return api.OK
}

// need notes that something is wrong, unless it holds.
func (c *size) need(holds bool) { c.wrong = c.wrong || !holds }

func (c *size) name(name string) { c.need(isName(name)) }

// perhaps is a name, or none.
func (c *size) perhaps(name string) { c.need(name == "" || isName(name)) }

func (c *size) names(l []string) {
	for _, name := range l {
		c.name(name)
	}
}

// measure looks at a whole statement.
func measure(s api.Stmt) size {
	c := size{parts: 1}
	rest := s // what its kind has no use for stays in it
	rest.Kind = 0
	switch s.Kind {
	case api.StmtSelect:
		c.selected(s.Select)
		rest.Select = api.Select{}
	case api.StmtInsert:
		c.insert(s)
		rest.Table, rest.Columns, rest.Rows = "", nil, nil
	case api.StmtUpdate:
		c.update(s)
		rest.Table, rest.Sets, rest.Where = "", nil, api.Expr{}
	case api.StmtDelete:
		c.name(s.Table)
		c.optional(s.Where)
		rest.Table, rest.Where = "", api.Expr{}
	case api.StmtCreateTable:
		c.createTable(s)
		rest.Table, rest.Cols, rest.Key = "", nil, nil
	case api.StmtCreateIndex:
		c.name(s.Index.Name)
		c.name(s.Index.Table)
		c.need(len(s.Index.Columns) > 0)
		c.names(s.Index.Columns)
		rest.Index = api.IndexDef{}
	case api.StmtDropTable:
		c.name(s.Table)
		rest.Table = ""
	case api.StmtDropIndex:
		c.name(s.Index.Name)
		rest.Index.Name = ""
	default:
		c.need(s.Kind == api.StmtBegin || s.Kind == api.StmtCommit || s.Kind == api.StmtRollback)
	}
	c.need(isZeroStmt(rest))
	return c
}

func isZeroStmt(s api.Stmt) bool {
	q, x := s.Select, s.Index
	noSelect := !q.Distinct && len(q.Items) == 0 && len(q.From) == 0 && isZero(q.Where) && len(q.Group) == 0 &&
		isZero(q.Having) && len(q.Order) == 0 && q.Limit == 0 && q.Offset == 0
	return noSelect && s.Table == "" && len(s.Columns) == 0 && len(s.Rows) == 0 && len(s.Sets) == 0 && isZero(s.Where) &&
		len(s.Cols) == 0 && len(s.Key) == 0 && x.Name == "" && x.Table == "" && len(x.Columns) == 0 && !x.Unique
}

func isZero(x api.Expr) bool {
	return x.Kind == 0 && isBare(x) && len(x.Args) == 0 && x.Value == api.Value{}
}

// isBare tells whether an expression has nothing but a kind, a value and arguments.
func isBare(x api.Expr) bool {
	return x.Table == "" && x.Name == "" && x.Slot == 0 && x.Type == 0 && !x.Distinct
}

func (c *size) selected(s api.Select) {
	c.need(len(s.Items) > 0)
	for _, x := range s.Items {
		if x.Star {
			c.perhaps(x.Table)
			c.need(isZero(x.Expr) && x.As == "")
		} else {
			c.expr(x.Expr)
			c.perhaps(x.As)
			c.need(x.Table == "")
		}
	}
	for i, x := range s.From {
		c.name(x.Table)
		c.perhaps(x.As)
		c.optional(x.On)
		c.need(i > 0 || x.On.Kind == 0)
		c.need(!x.Left || x.On.Kind != 0)
	}
	c.optional(s.Where)
	c.exprs(s.Group)
	c.optional(s.Having)
	for _, o := range s.Order {
		c.expr(o.Expr)
	}
	c.need(s.Limit >= -1 && s.Limit <= mostRows && s.Offset >= 0 && s.Offset <= mostRows)
}

func (c *size) insert(s api.Stmt) {
	c.name(s.Table)
	c.names(s.Columns)
	c.need(len(s.Rows) > 0)
	for _, row := range s.Rows {
		c.need(len(row) > 0)
		c.exprs(row)
	}
}

func (c *size) update(s api.Stmt) {
	c.name(s.Table)
	c.need(len(s.Sets) > 0)
	for _, x := range s.Sets {
		c.name(x.Column)
		c.expr(x.Expr)
	}
	c.optional(s.Where)
}

func (c *size) createTable(s api.Stmt) {
	c.name(s.Table)
	c.names(s.Key)
	c.need(len(s.Cols) > 0)
	for _, x := range s.Cols {
		c.name(x.Name)
		c.need(x.Type >= api.TypeInt && x.Type <= api.TypeText)
		c.optional(x.Default)
		c.need(x.Default.Kind == 0 || isDefault(x.Default))
	}
}

func isDefault(x api.Expr) bool {
	if x.Kind == api.ExprNeg && len(x.Args) == 1 {
		return x.Args[0].Kind == api.ExprValue && x.Args[0].Value.Type == api.TypeInt
	}
	return x.Kind == api.ExprValue
}

func (c *size) optional(x api.Expr) {
	if !isZero(x) {
		c.expr(x)
	}
}

func (c *size) exprs(l []api.Expr) {
	for _, x := range l {
		c.expr(x)
	}
}

func (c *size) expr(x api.Expr) { c.depth = max(c.depth, c.levels(x)) }

// levels looks at an expression, and tells how deep it is.
func (c *size) levels(x api.Expr) int {
	c.parts++
	c.need(isExpr(x))
	deepest := 0
	for _, a := range x.Args {
		if a.Kind == api.ExprStar && x.Kind == api.ExprAgg {
			c.parts++
			c.need(x.Name == "count" && !x.Distinct && isBare(a) && len(a.Args) == 0 && a.Value == api.Value{})
			deepest = max(deepest, 1)
			continue
		}
		deepest = max(deepest, c.levels(a))
	}
	return deepest + 1
}

// isExpr tells whether an expression, but for its arguments, may be.
func isExpr(x api.Expr) bool {
	if x.Kind != api.ExprValue && x.Value != (api.Value{}) {
		return false
	}
	n := len(x.Args)
	switch {
	case x.Kind == api.ExprValue:
		return isBare(x) && n == 0 && isLiteral(x.Value)
	case x.Kind == api.ExprCol:
		return n == 0 && isName(x.Name) && (x.Table == "" || isName(x.Table)) && x.Slot == 0 && x.Type == 0 && !x.Distinct
	case x.Kind == api.ExprAgg:
		return n == 1 && isAggregate(x.Name) && x.Table == "" && x.Slot == 0 && x.Type == 0
	case !isBare(x):
		return false
	case x.Kind >= api.ExprNeg && x.Kind <= api.ExprLength:
		return n == 1
	case x.Kind >= api.ExprAdd && x.Kind <= api.ExprLike:
		return n == 2
	case x.Kind == api.ExprIn, x.Kind == api.ExprCase:
		return n >= 2
	case x.Kind == api.ExprBetween:
		return n == 3
	}
	return x.Kind == api.ExprCoalesce && n >= 1
}

// isLiteral tells whether a value stands in a text.
func isLiteral(v api.Value) bool {
	switch v.Type {
	case api.TypeInt:
		return !v.Null && v.Int >= 0 && v.Text == ""
	case api.TypeBool:
		return !v.Null && (v.Int == 0 || v.Int == 1) && v.Text == ""
	case api.TypeText:
		return !v.Null && v.Int == 0 && strings.IndexByte(v.Text, 0) < 0
	case api.TypeNone:
		return v.Null && v.Int == 0 && v.Text == ""
	}
	return false
}
