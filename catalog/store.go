package catalog

import (
	"bytes"

	"cormorant/api"
	"cormorant/codec"
)

const prefix = 1 // of the keys of a catalog's rows

func rowKey(id int) []byte { return append([]byte{prefix}, codec.KeyInt(int64(id))...) }

// writer lays parts down as bytes, reader takes them off the front; bad, if they are none.
type writer struct{ b []byte }

func (w *writer) number(n int) { w.b = append(w.b, codec.Number(uint64(n))...) }

func (w *writer) text(s string) {
	w.number(len(s))
	w.b = append(w.b, s...)
}

func (w *writer) byte(n int) { w.b = append(w.b, byte(n)) }

func (w *writer) flag(yes bool) {
	if yes {
		w.byte(1)
	} else {
		w.byte(0)
	}
}

func (w *writer) numbers(l []int) {
	w.number(len(l))
	for _, n := range l {
		w.number(n)
	}
}

type reader struct {
	b   []byte
	bad bool
}

func (r *reader) number() int {
	n, k, e := codec.TakeNumber(r.b)
	if e != api.OK || n > mostNext {
		r.bad = true
		return 0
	}
	r.b = r.b[k:]
	return int(n)
}

func (r *reader) text() string {
	s, k, e := codec.TakeText(r.b)
	if e != api.OK {
		r.bad = true
		return ""
	}
	r.b = r.b[k:]
	return string(s)
}

func (r *reader) byte() int {
	if len(r.b) == 0 {
		r.bad = true
		return 0
	}
	n := r.b[0]
	r.b = r.b[1:]
	return int(n)
}

func (r *reader) numbers() []int {
	var l []int
	for n := r.number(); n > 0 && !r.bad; n-- {
		l = append(l, r.number())
	}
	return l
}

// tableBytes is the value of a table's row.
func tableBytes(t api.Table) []byte {
	var w writer
	w.text(t.Name)
	w.number(len(t.Columns))
	for _, c := range t.Columns {
		w.text(c.Name)
		w.byte(c.Type)
		w.flag(c.NotNull)
		w.value(c.Default)
	}
	w.numbers(t.Key)
	w.number(len(t.Indexes))
	for _, x := range t.Indexes {
		w.number(x.Id)
		w.text(x.Name)
		w.flag(x.Unique)
		w.numbers(x.Columns)
	}
	return w.b
}

func (w *writer) value(v api.Value) {
	w.flag(!v.Null)
	switch {
	case v.Null:
	case v.Type == api.TypeInt:
		w.b = append(w.b, codec.KeyInt(v.Int)...)
	case v.Type == api.TypeBool:
		w.byte(int(v.Int))
	default:
		w.text(v.Text)
	}
}

func (r *reader) value(typed int) api.Value {
	v := api.Value{Type: typed, Null: r.byte() == 0}
	switch {
	case v.Null:
	case typed == api.TypeInt:
		n, k, e := codec.TakeKeyInt(r.b)
		r.bad = r.bad || e != api.OK
		r.b = r.b[k:]
		v.Int = n
	case typed == api.TypeBool:
		v.Int = int64(r.byte())
	default:
		v.Text = r.text()
	}
	return v
}

// takeTable reads what may be a table; whether it is one shows when it is laid down again.
func takeTable(id int, b []byte) (api.Table, bool) {
	r := reader{b: b}
	t := api.Table{Id: id, Name: r.text()}
	for n := r.number(); n > 0 && !r.bad; n-- {
		c := api.Column{Name: r.text(), Type: r.byte(), NotNull: r.byte() != 0}
		c.Default = r.value(c.Type)
		t.Columns = append(t.Columns, c)
	}
	t.Key = r.numbers()
	for n := r.number(); n > 0 && !r.bad; n-- {
		t.Indexes = append(t.Indexes, api.Index{Id: r.number(), Name: r.text(), Unique: r.byte() != 0, Columns: r.numbers()})
	}
	return t, !r.bad
}

// Store lays a catalog down as rows; Load reads them.
func Store(c api.Catalog) ([]api.KV, api.Errno) {
	if !Right(c) {
		return nil, api.ErrArg
	}
	var rows []api.KV
	if c.Next > 1 {
		rows = append(rows, api.KV{Key: rowKey(0), Value: codec.Number(uint64(c.Next))})
	}
	for _, t := range c.Tables {
		rows = append(rows, api.KV{Key: rowKey(t.Id), Value: tableBytes(t)})
	}
	return rows, api.OK
}

func Load(rows []api.KV) (api.Catalog, api.Errno) {
	c := Empty()
	for i, kv := range rows {
		if !takeRow(&c, i, kv) {
			return api.Catalog{}, api.ErrCatalogForm
		}
	}
	again, e := Store(c)
	if e != api.OK || len(again) != len(rows) {
		return api.Catalog{}, api.ErrCatalogForm
	}
	for i, kv := range again {
		if !bytes.Equal(kv.Key, rows[i].Key) || !bytes.Equal(kv.Value, rows[i].Value) {
			return api.Catalog{}, api.ErrCatalogForm
		}
	}
	return c, api.OK
}

// takeRow takes one row: the first one tells Next.
func takeRow(c *api.Catalog, i int, kv api.KV) bool {
	if len(kv.Key) == 0 || len(kv.Value) > api.MaxValue || i > api.MaxSqlTables {
		return false
	}
	id, _, e := codec.TakeKeyInt(kv.Key[1:])
	if e != api.OK || id < 0 || id > mostNext {
		return false
	}
	if i == 0 {
		r := reader{b: kv.Value}
		c.Next = r.number()
		return !r.bad
	}
	t, ok := takeTable(int(id), kv.Value)
	c.Tables = append(c.Tables, t)
	return ok
}
