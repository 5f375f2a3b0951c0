package sqlexec

import (
	"slices"
	"strconv"

	"cormorant/api"
	"cormorant/codec"
	"cormorant/expr"
)

// line is a row that a select tells, with what it is ordered by beside it.
type line struct {
	out   []api.Value
	order []api.Value
}

// group is pairings with the same values, and their aggregates.
type group struct {
	row    []api.Value // of the first one
	aggs   []*expr.Agg
	values []api.Value // of the aggregates
}

// selected tells a select's rows.
func selected(b api.Bound, pairings [][]api.Value) (api.Outcome, api.Errno) {
	lines, e := linesOf(b, pairings)
	if e != api.OK {
		return api.Outcome{}, e
	}
	if b.Distinct {
		lines = distinct(lines)
	}
	slices.SortStableFunc(lines, func(x, y line) int {
		for i, o := range b.Order {
			c := expr.Order(x.order[i], y.order[i])
			if o.Desc {
				c = -c
			}
			if c != 0 {
				return c
			}
		}
		return 0
	})
	lines = lines[min(b.Offset, len(lines)):]
	if b.Limit >= 0 {
		lines = lines[:min(b.Limit, len(lines))]
	}
	var o api.Outcome
	for _, c := range b.Out {
		o.Fields = append(o.Fields, api.Field{Name: c.Name, Type: told(c.Expr.Type)})
	}
	for _, x := range lines {
		row := make([]api.Value, len(x.out))
		for i, v := range x.out {
			row[i] = v
			row[i].Type = told(v.Type)
		}
		o.Rows = append(o.Rows, row)
	}
	o.Tag = "SELECT " + strconv.Itoa(len(lines))
	return o, api.OK
}

// told is the type of what is told: there is always one.
func told(t int) int {
	if t == api.TypeNone {
		return api.TypeText
	}
	return t
}

// linesOf are a select's rows ahead of their order.
func linesOf(b api.Bound, pairings [][]api.Value) ([]line, api.Errno) {
	var lines []line
	if !b.Grouped {
		for _, row := range pairings {
			x, e := lineOf(b, row, nil)
			if e != api.OK {
				return nil, e
			}
			lines = append(lines, x)
		}
		return lines, api.OK
	}
	groups, e := groupsOf(b, pairings)
	if e != api.OK {
		return nil, e
	}
	for _, g := range groups {
		x, e := lineOf(b, g.row, g.values)
		if e != api.OK {
			return nil, e
		}
		lines = append(lines, x)
	}
	return lines, api.OK
}

func lineOf(b api.Bound, row, aggs []api.Value) (line, api.Errno) {
	var x line
	for _, c := range b.Out {
		v, e := expr.Eval(c.Expr, row, aggs)
		if e != api.OK {
			return x, e
		}
		x.out = append(x.out, v)
	}
	for _, o := range b.Order {
		if o.Expr.Kind == api.ExprCol && o.Expr.Type == 0 {
			x.order = append(x.order, x.out[o.Expr.Slot])
			continue
		}
		v, e := expr.Eval(o.Expr, row, aggs)
		if e != api.OK {
			return x, e
		}
		x.order = append(x.order, v)
	}
	return x, api.OK
}

// keyOf is the same text for the same values, and for no others.
func keyOf(l []api.Value) string {
	var b []byte
	for _, v := range l {
		if v.Null {
			b = append(b, 0)
			continue
		}
		b = append(append(b, 1), codec.KeyInt(v.Int)...)
		b = append(b, codec.KeyText([]byte(v.Text))...)
	}
	return string(b)
}

// distinct leaves of lines that tell the same the first one.
func distinct(l []line) []line {
	seen := map[string]int{}
	var rest []line
	for _, x := range l {
		key := keyOf(x.out)
		if seen[key] == 0 {
			seen[key] = 1
			rest = append(rest, x)
		}
	}
	return rest
}

// groupsOf are the groups that remain, with the values of their aggregates.
func groupsOf(b api.Bound, pairings [][]api.Value) ([]*group, api.Errno) {
	groups, e := gather(b, pairings)
	if e != api.OK {
		return nil, e
	}
	for _, g := range groups {
		for _, a := range g.aggs {
			v, e := a.Result()
			if e != api.OK {
				return nil, e
			}
			g.values = append(g.values, v)
		}
	}
	if b.Having.Kind == 0 {
		return groups, api.OK
	}
	var rest []*group
	for _, g := range groups {
		v, e := expr.Eval(b.Having, g.row, g.values)
		if e != api.OK {
			return nil, e
		}
		if isTrue(v) {
			rest = append(rest, g)
		}
	}
	return rest, api.OK
}

// gather puts pairings into groups.
func gather(b api.Bound, pairings [][]api.Value) ([]*group, api.Errno) {
	var groups []*group
	places := map[string]*group{}
	for _, row := range pairings {
		values, e := evalAll(b.Group, row)
		if e != api.OK {
			return nil, e
		}
		key := keyOf(values)
		g := places[key]
		if g == nil {
			if g, e = newGroup(b, row); e != api.OK {
				return nil, e
			}
			places[key] = g
			groups = append(groups, g)
		}
		if e := g.add(b.Aggs, row); e != api.OK {
			return nil, e
		}
	}
	if len(groups) == 0 && len(b.Group) == 0 {
		var row []api.Value
		for _, s := range b.Sources {
			row = append(row, nulls(s.Table)...)
		}
		g, e := newGroup(b, row)
		return []*group{g}, e
	}
	return groups, api.OK
}

func evalAll(l []api.Expr, row []api.Value) ([]api.Value, api.Errno) {
	var values []api.Value
	for _, x := range l {
		v, e := expr.Eval(x, row, nil)
		if e != api.OK {
			return nil, e
		}
		values = append(values, v)
	}
	return values, api.OK
}

func newGroup(b api.Bound, row []api.Value) (*group, api.Errno) {
	g := &group{row: row}
	for _, x := range b.Aggs {
		a, e := expr.New(x)
		if e != api.OK {
			return nil, e
		}
		g.aggs = append(g.aggs, a)
	}
	return g, api.OK
}

// add lets the aggregates take a pairing.
func (g *group) add(aggs []api.Expr, row []api.Value) api.Errno {
	for i, x := range aggs {
		v := api.Value{Type: api.TypeInt}
		if x.Args[0].Kind != api.ExprStar {
			var e api.Errno
			if v, e = expr.Eval(x.Args[0], row, nil); e != api.OK {
				return e
			}
		}
		if e := g.aggs[i].Add(v); e != api.OK {
			return e
		}
	}
	return api.OK
}
