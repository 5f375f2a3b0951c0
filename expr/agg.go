package expr

import (
	"math/bits"

	"cormorant/api"
)

// Agg is an aggregate that takes values.
type Agg struct {
	name     string
	distinct bool
	star     bool
	argument int // its type
	typed    int
	count    int64
	high     uint64 // of the sum, as a number of 128 bits
	low      uint64
	best     api.Value // the least or the greatest one
	taken    map[api.Value]int
}

// New is one that has taken none.
func New(x api.Expr) (*Agg, api.Errno) {
	if x.Kind != api.ExprAgg || len(x.Args) != 1 || !isAggregate(x) {
		return nil, api.ErrArg
	}
	a := &Agg{name: x.Name, distinct: x.Distinct, star: x.Args[0].Kind == api.ExprStar, argument: x.Args[0].Type, typed: x.Type}
	if x.Distinct {
		a.taken = map[api.Value]int{}
	}
	return a, api.OK
}

// isAggregate tells whether an aggregate's name, its argument's type and its own go together.
func isAggregate(x api.Expr) bool {
	arg := x.Args[0]
	if arg.Kind == api.ExprStar {
		return x.Name == "count" && arg.Type == 0 && !x.Distinct && x.Type == api.TypeInt
	}
	if !isType(arg.Type) && arg.Type != api.TypeNone {
		return false
	}
	switch x.Name {
	case "count":
		return x.Type == api.TypeInt
	case "sum", "avg":
		return x.Type == api.TypeInt && matches(arg.Type, api.TypeInt)
	case "min", "max":
		return x.Type == arg.Type
	}
	return false
}

// Add takes a value.
func (a *Agg) Add(v api.Value) api.Errno {
	if !isGiven(v) || !a.star && a.argument != api.TypeNone && !matches(v.Type, a.argument) {
		return api.ErrArg
	}
	if v.Null && !a.star {
		return api.OK
	}
	if a.distinct {
		if a.taken[v] > 0 {
			return api.OK
		}
		a.taken[v] = 1
	}
	a.count++
	switch a.name {
	case "sum", "avg":
		a.sum(v.Int)
	case "min", "max":
		if c := Order(v, a.best); a.count == 1 || c < 0 && a.name == "min" || c > 0 && a.name == "max" {
			a.best = v
		}
	}
	return api.OK
}

func (a *Agg) sum(n int64) {
	var carry uint64
	a.low, carry = bits.Add64(a.low, uint64(n), 0)
	a.high, _ = bits.Add64(a.high, uint64(n>>63), carry)
}

// absolute is the sum without its sign, and whether it has one.
func (a *Agg) absolute() (uint64, uint64, bool) {
	if a.high>>63 == 0 {
		return a.high, a.low, false
	}
	low, borrow := bits.Sub64(0, a.low, 0)
	high, _ := bits.Sub64(0, a.high, borrow)
	return high, low, true
}

// Result is what it comes to.
func (a *Agg) Result() (api.Value, api.Errno) {
	if a.name == "count" {
		return integer(a.count), api.OK
	}
	if a.count == 0 {
		return null(a.typed), api.OK
	}
	if a.name == "min" || a.name == "max" {
		return a.best, api.OK
	}
	high, low, negative := a.absolute()
	if a.name == "avg" {
		low, _ = bits.Div64(high, low, uint64(a.count))
		high = 0
	}
	n, ok := signed(high, low, negative)
	if !ok {
		return api.Value{}, api.ErrOutOfRange
	}
	return integer(n), api.OK
}
