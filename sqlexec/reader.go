package sqlexec

import (
	"slices"
	"sort"

	"cormorant/api"
	"cormorant/codec"
	"cormorant/rowkey"
)

// reader looks into a view, and notes what is not there.
type reader struct {
	view  api.View
	needs []api.Span
	rows  map[string][]api.Value // that were taken apart, by their keys
}

func newReader(v api.View) *reader {
	return &reader{view: v, rows: map[string][]api.Value{}}
}

// isView tells whether a view's spans and rows are in order.
func isView(v api.View) bool {
	for i, p := range v.Spans {
		if codec.Compare(p.From, p.To) >= 0 || i > 0 && codec.Compare(v.Spans[i-1].To, p.From) > 0 {
			return false
		}
	}
	at := 0
	for i, kv := range v.Rows {
		if i > 0 && codec.Compare(v.Rows[i-1].Key, kv.Key) >= 0 {
			return false
		}
		for at < len(v.Spans) && codec.Compare(kv.Key, v.Spans[at].To) >= 0 {
			at++
		}
		if at == len(v.Spans) || codec.Compare(kv.Key, v.Spans[at].From) < 0 {
			return false
		}
	}
	return true
}

func isEmpty(p api.Span) bool { return codec.Compare(p.From, p.To) >= 0 }

// covered tells whether all keys of a span are in the view's spans.
func (r *reader) covered(p api.Span) bool {
	l := r.view.Spans
	at := p.From
	for i := sort.Search(len(l), func(i int) bool { return codec.Compare(l[i].To, at) > 0 }); i < len(l); i++ {
		if codec.Compare(l[i].From, at) > 0 {
			return false
		}
		at = l[i].To
		if codec.Compare(at, p.To) >= 0 {
			return true
		}
	}
	return false
}

// read is the rows of a span; false: they are needed.
func (r *reader) read(p api.Span) ([]api.KV, bool) {
	if isEmpty(p) {
		return nil, true
	}
	if !r.covered(p) {
		r.needs = append(r.needs, p)
		return nil, false
	}
	return r.view.Rows[r.place(p.From):r.place(p.To)], true
}

// place is the first row whose key is not below one.
func (r *reader) place(key []byte) int {
	return sort.Search(len(r.view.Rows), func(i int) bool { return codec.Compare(r.view.Rows[i].Key, key) >= 0 })
}

// needed is what is needed, rising, without overlap.
func (r *reader) needed() []api.Span {
	slices.SortFunc(r.needs, func(a, b api.Span) int { return codec.Compare(a.From, b.From) })
	var l []api.Span
	for _, p := range r.needs {
		if k := len(l) - 1; k >= 0 && codec.Compare(p.From, l[k].To) < 0 {
			if codec.Compare(l[k].To, p.To) < 0 {
				l[k].To = slices.Clone(p.To)
			}
			continue
		}
		l = append(l, api.Span{From: slices.Clone(p.From), To: slices.Clone(p.To)})
	}
	return l
}

// takeRow is a row's values, which must not be changed.
func (r *reader) takeRow(t api.Table, kv api.KV) ([]api.Value, api.Errno) {
	if row, there := r.rows[string(kv.Key)]; there {
		return row, api.OK
	}
	row, e := rowkey.TakeRow(t, kv)
	if e != api.OK {
		return nil, api.ErrExecDamage
	}
	r.rows[string(kv.Key)] = row
	return row, api.OK
}

// keyPart is the span of the row with these values in the key's columns; it begins with the row's key.
func keyPart(t api.Table, key []api.Value) (api.Span, api.Errno) {
	for _, v := range key {
		if v.Null {
			return api.Span{}, api.ErrExecDamage
		}
	}
	return rowkey.Part(t, rowsIndex, key, api.Limit{}, api.Limit{})
}

const rowsIndex = 1

// inPart is the rows in a part of an index, in the order of their keys; false: something is needed.
func (r *reader) inPart(t api.Table, index int, p api.Span) ([][]api.Value, bool, api.Errno) {
	l, ok := r.read(p)
	if !ok {
		return nil, false, api.OK
	}
	if index != rowsIndex {
		var e api.Errno
		if l, ok, e = r.behind(t, indexOf(t, index), l); !ok || e != api.OK {
			return nil, false, e
		}
	}
	var rows [][]api.Value
	for _, kv := range l {
		row, e := r.takeRow(t, kv)
		if e != api.OK {
			return nil, false, e
		}
		rows = append(rows, row)
	}
	return rows, true, api.OK
}

func indexOf(t api.Table, id int) api.Index {
	for _, x := range t.Indexes {
		if x.Id == id {
			return x
		}
	}
	return api.Index{}
}

// behind is the rows to which entries belong, in the order of their keys; false: some are needed.
func (r *reader) behind(t api.Table, x api.Index, entries []api.KV) ([]api.KV, bool, api.Errno) {
	var l []api.KV
	whole := true
	for _, kv := range entries {
		_, key, e := rowkey.TakeEntry(t, x, kv)
		if e != api.OK {
			return nil, false, api.ErrExecDamage
		}
		p, e := keyPart(t, key)
		if e != api.OK {
			return nil, false, e
		}
		rows, ok := r.read(p)
		switch {
		case !ok:
			whole = false
		case len(rows) != 1:
			return nil, false, api.ErrExecDamage
		default:
			l = append(l, rows[0])
		}
	}
	slices.SortFunc(l, func(a, b api.KV) int { return codec.Compare(a.Key, b.Key) })
	return l, whole, api.OK
}
