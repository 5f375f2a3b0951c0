package pgsession

import (
	"slices"

	"cormorant/api"
)

// cloneStmt is a statement that shares no memory with another one.
func cloneStmt(x api.Stmt) api.Stmt {
	x.Select = cloneSelect(x.Select)
	x.Columns = slices.Clone(x.Columns)
	x.Rows = slices.Clone(x.Rows)
	for i, row := range x.Rows {
		x.Rows[i] = cloneExprs(row)
	}
	x.Sets = slices.Clone(x.Sets)
	for i := range x.Sets {
		x.Sets[i].Expr = cloneExpr(x.Sets[i].Expr)
	}
	x.Where = cloneExpr(x.Where)
	x.Cols = slices.Clone(x.Cols)
	for i := range x.Cols {
		x.Cols[i].Default = cloneExpr(x.Cols[i].Default)
	}
	x.Key = slices.Clone(x.Key)
	x.Index.Columns = slices.Clone(x.Index.Columns)
	return x
}

func cloneSelect(x api.Select) api.Select {
	x.Items = slices.Clone(x.Items)
	for i := range x.Items {
		x.Items[i].Expr = cloneExpr(x.Items[i].Expr)
	}
	x.From = slices.Clone(x.From)
	for i := range x.From {
		x.From[i].On = cloneExpr(x.From[i].On)
	}
	x.Where, x.Having = cloneExpr(x.Where), cloneExpr(x.Having)
	x.Group = cloneExprs(x.Group)
	x.Order = slices.Clone(x.Order)
	for i := range x.Order {
		x.Order[i].Expr = cloneExpr(x.Order[i].Expr)
	}
	return x
}

func cloneExprs(l []api.Expr) []api.Expr {
	l = slices.Clone(l)
	for i := range l {
		l[i] = cloneExpr(l[i])
	}
	return l
}

func cloneExpr(x api.Expr) api.Expr {
	x.Args = cloneExprs(x.Args)
	return x
}
