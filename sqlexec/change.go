package sqlexec

import (
	"bytes"
	"maps"
	"slices"
	"strconv"

	"cormorant/api"
	"cormorant/catalog"
	"cormorant/expr"
	"cormorant/rowkey"
)

// change is keys and values as they were, and as they are to be.
type change struct {
	before, after map[string][]byte
}

func newChange() *change {
	return &change{before: map[string][]byte{}, after: map[string][]byte{}}
}

// writes are what makes of the one the other, rising.
func (c *change) writes() []api.Op {
	var l []api.Op
	for key := range c.before {
		if _, stays := c.after[key]; !stays {
			l = append(l, api.Op{Del: true, Key: []byte(key)})
		}
	}
	for key, value := range c.after {
		if old, was := c.before[key]; !was || !bytes.Equal(old, value) {
			l = append(l, api.Op{Key: []byte(key), Value: slices.Clone(value)})
		}
	}
	slices.SortFunc(l, func(a, b api.Op) int { return bytes.Compare(a.Key, b.Key) })
	return l
}

func put(m map[string][]byte, l []api.KV) {
	for _, kv := range l {
		m[string(kv.Key)] = kv.Value
	}
}

// stored is a row with its entries.
func stored(t api.Table, row []api.Value) ([]api.KV, api.Errno) {
	kv, e := rowkey.Row(t, row)
	if e != api.OK {
		return nil, e
	}
	l := []api.KV{kv}
	for _, x := range t.Indexes {
		if kv, e = rowkey.Entry(t, x, row); e != api.OK {
			return nil, e
		}
		l = append(l, kv)
	}
	return l, api.OK
}

// typed gives a Null of no type that of a column.
func typed(v api.Value, c api.Column) api.Value {
	if v.Null {
		v.Type = c.Type
	}
	return v
}

// checkNulls refuses Nulls where none may be.
func checkNulls(t api.Table, row []api.Value) api.Errno {
	for i, c := range t.Columns {
		if row[i].Null && c.NotNull {
			return api.ErrExecNull
		}
	}
	return api.OK
}

func (r *reader) insert(b api.Bound) (api.Outcome, api.Errno) {
	c := newChange()
	var rows [][]api.Value
	for _, l := range b.Rows {
		row, e := evalAll(l, nil)
		if e != api.OK {
			return api.Outcome{}, e
		}
		for i := range row {
			row[i] = typed(row[i], b.Table.Columns[i])
		}
		if e := checkNulls(b.Table, row); e != api.OK {
			return api.Outcome{}, e
		}
		kvs, e := stored(b.Table, row)
		if e != api.OK {
			return api.Outcome{}, e
		}
		put(c.after, kvs)
		rows = append(rows, row)
	}
	if e := r.unique(b.Table, rows, nil); e != api.OK {
		return api.Outcome{}, e
	}
	return api.Outcome{Writes: c.writes(), Tag: "INSERT 0 " + strconv.Itoa(len(rows))}, api.OK
}

func (r *reader) update(b api.Bound, pairings [][]api.Value) (api.Outcome, api.Errno) {
	c := newChange()
	gone := map[string]int{}
	var rows [][]api.Value
	for _, old := range pairings {
		row, e := set(b, old)
		if e != api.OK {
			return api.Outcome{}, e
		}
		kvs, e := stored(b.Table, row)
		if e != api.OK {
			return api.Outcome{}, e
		}
		put(c.after, kvs)
		rows = append(rows, row)
		if kvs, e = stored(b.Table, old); e != api.OK {
			return api.Outcome{}, api.ErrExecDamage
		}
		put(c.before, kvs)
		gone[string(kvs[0].Key)] = 1
	}
	if e := r.unique(b.Table, rows, gone); e != api.OK {
		return api.Outcome{}, e
	}
	return api.Outcome{Writes: c.writes(), Tag: "UPDATE " + strconv.Itoa(len(rows))}, api.OK
}

// set is a row as it is to be.
func set(b api.Bound, old []api.Value) ([]api.Value, api.Errno) {
	row := slices.Clone(old)
	for _, x := range b.Sets {
		v, e := expr.Eval(x.Expr, old, nil)
		if e != api.OK {
			return nil, e
		}
		row[x.Column] = typed(v, b.Table.Columns[x.Column])
	}
	return row, checkNulls(b.Table, row)
}

func (r *reader) remove(b api.Bound, pairings [][]api.Value) (api.Outcome, api.Errno) {
	c := newChange()
	for _, row := range pairings {
		kvs, e := stored(b.Table, row)
		if e != api.OK {
			return api.Outcome{}, api.ErrExecDamage
		}
		put(c.before, kvs)
	}
	return api.Outcome{Writes: c.writes(), Tag: "DELETE " + strconv.Itoa(len(pairings))}, api.OK
}

// unique refuses rows that have what another one has, new or old, but for those that are gone.
func (r *reader) unique(t api.Table, rows [][]api.Value, gone map[string]int) api.Errno {
	taken := map[string]int{}
	twice := false
	indexes := append([]api.Index{{Id: rowsIndex, Columns: t.Key, Unique: true}}, t.Indexes...)
	for _, row := range rows {
		for _, x := range indexes {
			values, whole := columnsOf(row, x.Columns)
			if !x.Unique || !whole {
				continue
			}
			p, e := rowkey.Part(t, x.Id, values, api.Limit{}, api.Limit{})
			if e != api.OK {
				return e
			}
			there, e := r.others(t, x, p, gone)
			if e != api.OK {
				return e
			}
			twice = twice || there || taken[string(p.From)] > 0
			taken[string(p.From)]++
		}
	}
	if twice && len(r.needs) == 0 {
		return api.ErrExecUnique
	}
	return api.OK
}

// columnsOf are a row's values in columns; false: one is Null.
func columnsOf(row []api.Value, columns []int) ([]api.Value, bool) {
	var l []api.Value
	whole := true
	for _, n := range columns {
		l = append(l, row[n])
		whole = whole && !row[n].Null
	}
	return l, whole
}

// others tells whether there is a row in a part that is not gone.
func (r *reader) others(t api.Table, x api.Index, p api.Span, gone map[string]int) (bool, api.Errno) {
	l, ok := r.read(p)
	if !ok {
		return false, api.OK
	}
	for _, kv := range l {
		key := kv.Key
		if x.Id != rowsIndex {
			_, values, e := rowkey.TakeEntry(t, x, kv)
			if e != api.OK {
				return false, api.ErrExecDamage
			}
			p, e := keyPart(t, values)
			if e != api.OK {
				return false, e
			}
			key = p.From
		}
		if gone[string(key)] == 0 {
			return true, api.OK
		}
	}
	return false, api.OK
}

// define makes or drops a table or an index.
func (r *reader) define(c api.Catalog, s api.Stmt) (api.Outcome, api.Errno) {
	next, e := catalog.Apply(c, s)
	if e != api.OK {
		return api.Outcome{}, e
	}
	x := newChange()
	was, e := catalog.Store(c)
	if e != api.OK {
		return api.Outcome{}, e
	}
	put(x.before, was)
	is, e := catalog.Store(next)
	if e != api.OK {
		return api.Outcome{}, e
	}
	put(x.after, is)
	tag := ""
	switch s.Kind {
	case api.StmtCreateTable:
		tag = "CREATE TABLE"
	case api.StmtCreateIndex:
		tag = "CREATE INDEX"
		if e := r.fill(next, s.Index, x); e != api.OK {
			return api.Outcome{}, e
		}
	case api.StmtDropTable:
		tag = "DROP TABLE"
		t, _ := catalog.Find(c, s.Table)
		r.empty(rowkey.TableSpan(t.Id), x)
	case api.StmtDropIndex:
		tag = "DROP INDEX"
		r.empty(spanOf(c, s.Index.Name), x)
	}
	if len(r.needs) > 0 {
		return api.Outcome{}, api.OK
	}
	return api.Outcome{Writes: x.writes(), Tag: tag}, api.OK
}

// empty takes all keys of a span away.
func (r *reader) empty(p api.Span, x *change) {
	l, _ := r.read(p)
	put(x.before, l)
}

// spanOf is the span of an index.
func spanOf(c api.Catalog, name string) api.Span {
	for _, t := range c.Tables {
		for _, x := range t.Indexes {
			if x.Name == name {
				return rowkey.IndexSpan(t.Id, x.Id)
			}
		}
	}
	return api.Span{}
}

// fill makes the entries of a new index.
func (r *reader) fill(c api.Catalog, def api.IndexDef, x *change) api.Errno {
	t, _ := catalog.Find(c, def.Table)
	index := t.Indexes[len(t.Indexes)-1]
	l, ok := r.read(rowkey.IndexSpan(t.Id, rowsIndex))
	if !ok {
		return api.OK
	}
	taken := map[string]int{}
	twice := false
	entries := map[string][]byte{}
	for _, kv := range l {
		row, e := r.takeRow(t, kv)
		if e != api.OK {
			return e
		}
		entry, e := rowkey.Entry(t, index, row)
		if e != api.OK {
			return e
		}
		put(entries, []api.KV{entry})
		if values, whole := columnsOf(row, index.Columns); whole {
			taken[keyOf(values)]++
			twice = twice || taken[keyOf(values)] > 1
		}
	}
	if twice && index.Unique {
		return api.ErrExecUnique
	}
	maps.Copy(x.after, entries)
	return api.OK
}
