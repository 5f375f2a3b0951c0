package catalog

import (
	"slices"

	"cormorant/api"
)

// same tells whether two bound expressions are equal.
func same(a, b api.Expr) bool {
	return a.Kind == b.Kind && a.Value == b.Value && a.Table == b.Table && a.Name == b.Name && a.Slot == b.Slot &&
		a.Type == b.Type && a.Distinct == b.Distinct && slices.EqualFunc(a.Args, b.Args, same)
}

func cloneExpr(e api.Expr) api.Expr {
	e.Args = slices.Clone(e.Args)
	for i := range e.Args {
		e.Args[i] = cloneExpr(e.Args[i])
	}
	return e
}

// matches tells whether a type is another one, or none.
func matches(t, want int) bool { return t == want || t == api.TypeNone }

// expr binds an expression: its arguments, then its type.
func (x *binder) expr(e api.Expr) api.Expr {
	switch e.Kind {
	case api.ExprCol:
		return x.column(e)
	case api.ExprValue:
		return api.Expr{Kind: e.Kind, Value: e.Value, Type: e.Value.Type}
	case api.ExprAgg:
		return x.aggregate(e)
	case api.ExprStar:
		return api.Expr{Kind: e.Kind}
	}
	out := api.Expr{Kind: e.Kind}
	for _, a := range e.Args {
		out.Args = append(out.Args, x.expr(a))
	}
	out.Type = typeOf(out)
	return out
}

func (x *binder) column(e api.Expr) api.Expr {
	if e.Table == "" {
		c := x.scope.columns[e.Name]
		switch {
		case c.count == 0:
			refuse(api.ErrNoColumn)
		case c.count > 1:
			refuse(api.ErrTwoColumns)
		}
		return api.Expr{Kind: api.ExprCol, Slot: c.slot, Type: c.typed}
	}
	s, there := x.scope.tables[e.Table]
	if !there {
		refuse(api.ErrNoTable)
	}
	n := columnAt(s.table, e.Name)
	if n < 0 {
		refuse(api.ErrNoColumn)
	}
	return api.Expr{Kind: api.ExprCol, Slot: s.from + n, Type: s.table.Columns[n].Type}
}

// aggregate binds one, and gives it its number.
func (x *binder) aggregate(e api.Expr) api.Expr {
	if !x.allowed {
		refuse(api.ErrGrouping)
	}
	x.allowed = false
	arg := x.expr(e.Args[0])
	x.allowed = true
	out := api.Expr{Kind: e.Kind, Name: e.Name, Distinct: e.Distinct, Args: []api.Expr{arg}}
	switch e.Name {
	case "count":
		out.Type = api.TypeInt
	case "sum", "avg":
		need(matches(arg.Type, api.TypeInt))
		out.Type = api.TypeInt
	default:
		out.Type = arg.Type
	}
	for i, a := range x.aggs {
		out.Slot = i
		if same(a, out) {
			return out
		}
	}
	out.Slot = len(x.aggs)
	x.aggs = append(x.aggs, cloneExpr(out))
	return out
}

func need(holds bool) {
	if !holds {
		refuse(api.ErrTypes)
	}
}

// all needs arguments of a type.
func all(l []api.Expr, want int) {
	for _, a := range l {
		need(matches(a.Type, want))
	}
}

// common is the one type that expressions have.
func common(l []api.Expr) int {
	t := api.TypeNone
	for _, a := range l {
		if t == api.TypeNone {
			t = a.Type
		}
		need(matches(a.Type, t))
	}
	return t
}

// typeOf is the type of an expression whose arguments have theirs.
func typeOf(e api.Expr) int {
	switch k := e.Kind; {
	case k == api.ExprNeg, k >= api.ExprAdd && k <= api.ExprMod:
		all(e.Args, api.TypeInt)
		return api.TypeInt
	case k == api.ExprLength:
		all(e.Args, api.TypeText)
		return api.TypeInt
	case k == api.ExprConcat:
		all(e.Args, api.TypeText)
		return api.TypeText
	case k == api.ExprLike:
		all(e.Args, api.TypeText)
	case k == api.ExprNot, k == api.ExprAnd, k == api.ExprOr:
		all(e.Args, api.TypeBool)
	case k >= api.ExprEq && k <= api.ExprGe, k == api.ExprIn, k == api.ExprBetween:
		common(e.Args)
	case k == api.ExprCase:
		return caseType(e.Args)
	case k == api.ExprCoalesce:
		return common(e.Args)
	}
	return api.TypeBool
}

// caseType is the type of the thens and the else.
func caseType(l []api.Expr) int {
	var values []api.Expr
	for i, a := range l {
		if i%2 == 1 || i == len(l)-1 {
			values = append(values, a)
		} else {
			need(matches(a.Type, api.TypeBool))
		}
	}
	return common(values)
}
