package sqlexec

import (
	"slices"

	"cormorant/api"
	"cormorant/expr"
	"cormorant/rowkey"
	"cormorant/sqlplan"
)

// ends are those of a part.
type ends struct{ from, to string }

// walker goes through the pairings of a statement's sources, one after the other.
type walker struct {
	reader *reader
	bound  api.Bound
	plan   api.Plan
	found  []map[ends][][]api.Value // of each source: rows by the part that they are in
	codes  []api.Errno              // of each source: the error that the pairing has there
	looks  int                      // the last source that is come by by a lookup, or -1
	where  []api.Expr               // conditions, where there is no source
	rows   [][]api.Value            // that survive
	many   bool
	first  api.Errno // the first pairing's that has one
	broken api.Errno
}

// pairings are the rows that survive; where something is needed, only some of them.
func (r *reader) pairings(b api.Bound, p api.Plan) ([][]api.Value, api.Errno) {
	w := &walker{reader: r, bound: b, plan: p, codes: make([]api.Errno, len(b.Sources)), looks: -1}
	for i, a := range p.Sources {
		w.found = append(w.found, map[ends][][]api.Value{})
		if a.Way == api.WayLookup {
			w.looks = i
		}
	}
	if len(b.Sources) == 0 {
		w.where = sqlplan.Conjuncts(b.Where)
	}
	w.walk(0, nil, false)
	switch {
	case w.broken != api.OK:
		return nil, w.broken
	case len(r.needs) > 0:
		return nil, api.OK
	case w.many:
		return nil, api.ErrExecMany
	}
	return w.rows, w.first
}

// walk goes through what a pairing of the first sources can be completed to; flawed: a condition of it has an error.
func (w *walker) walk(i int, row []api.Value, flawed bool) {
	if w.broken != api.OK || w.many && i > w.looks {
		return
	}
	if i == len(w.bound.Sources) {
		w.end(row, flawed)
		return
	}
	s := w.bound.Sources[i]
	rows, ok := w.candidates(i, row)
	if !ok {
		return
	}
	taken := false
	for _, one := range rows {
		full := slices.Concat(row, one)
		w.codes[i] = api.OK
		if s.Left {
			v, e := expr.Eval(s.On, full, nil)
			if e == api.OK && !isTrue(v) {
				continue
			}
			w.codes[i] = e
		}
		taken = true
		w.filter(i, full, flawed)
	}
	if s.Left && !taken {
		w.codes[i] = api.OK
		w.filter(i, slices.Concat(row, nulls(s.Table)), flawed)
	}
}

// filter goes on with a pairing, unless one of the source's filters refuses it.
func (w *walker) filter(i int, row []api.Value, flawed bool) {
	passes, clean := pass(w.plan.Sources[i].Filters, row)
	if passes {
		w.walk(i+1, row, flawed || !clean || w.codes[i] != api.OK)
	}
}

// pass tells whether no condition is false or Null, and whether none has an error.
func pass(l []api.Expr, row []api.Value) (bool, bool) {
	clean := true
	for _, x := range l {
		v, e := expr.Eval(x, row, nil)
		if e != api.OK {
			clean = false
		} else if !isTrue(v) {
			return false, clean
		}
	}
	return true, clean
}

func isTrue(v api.Value) bool { return !v.Null && v.Int == 1 }

func nulls(t api.Table) []api.Value {
	l := make([]api.Value, len(t.Columns))
	for i, c := range t.Columns {
		l[i] = api.Value{Type: c.Type, Null: true}
	}
	return l
}

// end takes a pairing of all sources.
func (w *walker) end(row []api.Value, flawed bool) {
	if passes, clean := pass(w.where, row); !passes {
		return
	} else if !clean {
		flawed = true
	}
	if len(w.rows) == api.MaxSqlRows {
		w.many = true
		return
	}
	w.rows = append(w.rows, row)
	if flawed && w.first == api.OK {
		w.first = w.errorOf(row)
	}
}

// errorOf is the first error of a pairing that survives.
func (w *walker) errorOf(row []api.Value) api.Errno {
	for i, s := range w.bound.Sources {
		if s.Left && w.codes[i] != api.OK {
			return w.codes[i]
		}
		if e := firstOf(s.On, row); !s.Left && e != api.OK {
			return e
		}
	}
	return firstOf(w.bound.Where, row)
}

// firstOf is the first error of an expression's conjuncts.
func firstOf(x api.Expr, row []api.Value) api.Errno {
	for _, c := range sqlplan.Conjuncts(x) {
		if _, e := expr.Eval(c, row, nil); e != api.OK {
			return e
		}
	}
	return api.OK
}

// candidates are a source's rows that its access allows, behind a pairing of those ahead; false: something is needed, or broken.
func (w *walker) candidates(i int, row []api.Value) ([][]api.Value, bool) {
	t, a := w.bound.Sources[i].Table, w.plan.Sources[i]
	p, some := part(t, a, row)
	if !some {
		return nil, true
	}
	key := ends{from: string(p.From), to: string(p.To)}
	if rows, there := w.found[i][key]; there {
		return rows, true
	}
	rows, ok, e := w.reader.inPart(t, a.Index, p)
	if e != api.OK {
		w.broken = e
	}
	if ok {
		w.found[i][key] = rows
	}
	return rows, ok
}

// part is the part of an index that an access reads; false: none, as something is compared with Null.
func part(t api.Table, a api.Access, row []api.Value) (api.Span, bool) {
	var equal []api.Value
	for _, x := range a.Equal {
		equal = append(equal, known(x, row))
	}
	low, high := limit(a.Low, row), limit(a.High, row)
	for _, v := range append(slices.Clone(equal), low.Value, high.Value) {
		if v.Null {
			return api.Span{}, false
		}
	}
	p, e := rowkey.Part(t, a.Index, equal, low, high)
	return p, e == api.OK
}

// known is what a column is compared with.
func known(x api.Expr, row []api.Value) api.Value {
	if x.Kind == api.ExprCol {
		return row[x.Slot]
	}
	return x.Value
}

func limit(b api.Bounded, row []api.Value) api.Limit {
	if b.Expr.Kind == 0 {
		return api.Limit{}
	}
	return api.Limit{Has: true, Open: b.Open, Value: known(b.Expr, row)}
}
