package expr

import (
	"strings"

	"cormorant/api"
)

func isType(n int) bool { return n >= api.TypeInt && n <= api.TypeText }

// isValue tells whether a value may be.
func isValue(v api.Value) bool {
	switch {
	case !isType(v.Type):
		return false
	case v.Null:
		return v.Int == 0 && v.Text == ""
	case v.Type == api.TypeInt:
		return v.Text == ""
	case v.Type == api.TypeBool:
		return v.Text == "" && (v.Int == 0 || v.Int == 1)
	}
	return v.Int == 0 && len(v.Text) <= api.MaxRowBytes && strings.IndexByte(v.Text, 0) < 0
}

// isGiven tells whether a value may be, or is the Null of no type.
func isGiven(v api.Value) bool { return isValue(v) || v == api.Value{Type: api.TypeNone, Null: true} }

// Right tells whether a bound expression may be, over a row and aggregates of these types.
func Right(x api.Expr, row, aggs []int) bool {
	if x.Table != "" || x.Kind != api.ExprValue && x.Value != (api.Value{}) {
		return false
	}
	switch x.Kind {
	case api.ExprValue:
		return x.Name == "" && x.Slot == 0 && !x.Distinct && len(x.Args) == 0 && isGiven(x.Value) && x.Type == x.Value.Type
	case api.ExprCol:
		return x.Name == "" && !x.Distinct && len(x.Args) == 0 && isSlot(x, row)
	case api.ExprAgg:
		return len(x.Args) == 1 && isSlot(x, aggs)
	}
	if x.Name != "" || x.Slot != 0 || x.Distinct || !isMany(x.Kind, len(x.Args)) {
		return false
	}
	for _, a := range x.Args {
		if !Right(a, row, aggs) {
			return false
		}
	}
	t, ok := typeOf(x)
	return ok && x.Type == t
}

// isSlot tells whether an expression's slot is there, and has its type.
func isSlot(x api.Expr, types []int) bool {
	return x.Slot >= 0 && x.Slot < len(types) && types[x.Slot] == x.Type && (isType(x.Type) || x.Type == api.TypeNone)
}

// isMany tells whether a kind has so many arguments.
func isMany(kind, n int) bool {
	switch {
	case kind >= api.ExprNeg && kind <= api.ExprLength:
		return n == 1
	case kind >= api.ExprAdd && kind <= api.ExprLike:
		return n == 2
	case kind == api.ExprIn, kind == api.ExprCase:
		return n >= 2
	case kind == api.ExprBetween:
		return n == 3
	}
	return kind == api.ExprCoalesce && n >= 1
}

func matches(t, want int) bool { return t == want || t == api.TypeNone }

// all tells whether all arguments are of a type.
func all(l []api.Expr, want int) bool {
	for _, a := range l {
		if !matches(a.Type, want) {
			return false
		}
	}
	return true
}

// common is the one type that expressions have, if they have one.
func common(l []api.Expr) (int, bool) {
	t := api.TypeNone
	for _, a := range l {
		if t == api.TypeNone {
			t = a.Type
		}
		if !matches(a.Type, t) {
			return 0, false
		}
	}
	return t, true
}

// typeOf is the type of an expression with arguments, if these have theirs.
func typeOf(x api.Expr) (int, bool) {
	switch k := x.Kind; {
	case k == api.ExprNeg, k >= api.ExprAdd && k <= api.ExprMod:
		return api.TypeInt, all(x.Args, api.TypeInt)
	case k == api.ExprLength:
		return api.TypeInt, all(x.Args, api.TypeText)
	case k == api.ExprConcat:
		return api.TypeText, all(x.Args, api.TypeText)
	case k == api.ExprLike:
		return api.TypeBool, all(x.Args, api.TypeText)
	case k == api.ExprNot, k == api.ExprAnd, k == api.ExprOr:
		return api.TypeBool, all(x.Args, api.TypeBool)
	case k == api.ExprCase:
		return caseType(x.Args)
	case k == api.ExprCoalesce:
		return common(x.Args)
	case k == api.ExprIsNull, k == api.ExprIsNotNull:
		return api.TypeBool, true
	}
	_, ok := common(x.Args)
	return api.TypeBool, ok
}

// caseType is the type of the thens and the else.
func caseType(l []api.Expr) (int, bool) {
	var whens, values []api.Expr
	for i, a := range l {
		if i%2 == 1 || i == len(l)-1 {
			values = append(values, a)
		} else {
			whens = append(whens, a)
		}
	}
	t, ok := common(values)
	return t, ok && all(whens, api.TypeBool)
}
