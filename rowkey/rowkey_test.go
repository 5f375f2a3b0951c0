package rowkey_test

import (
	"bytes"
	"fmt"
	"math"
	"math/rand"
	"reflect"
	"slices"
	"strings"
	"testing"

	"cormorant/api"
	"cormorant/codec"
	"cormorant/expr"
	"cormorant/rowkey"
)

func integer(n int64) api.Value { return api.Value{Type: api.TypeInt, Int: n} }

func boolean(n int64) api.Value { return api.Value{Type: api.TypeBool, Int: n} }

func text(s string) api.Value { return api.Value{Type: api.TypeText, Text: s} }

func null(t int) api.Value { return api.Value{Type: t, Null: true} }

func is(t *testing.T, what string, got, want any) {
	t.Helper()
	if !reflect.DeepEqual(got, want) {
		t.Errorf("%s: %v, want %v", what, got, want)
	}
}

// small is the chapter's table.
func small() api.Table {
	return api.Table{Id: 1, Name: "t", Key: []int{0}, Columns: []api.Column{{Name: "a", Type: api.TypeInt, NotNull: true}, {Name: "b", Type: api.TypeText}}, Indexes: []api.Index{{Id: 2, Columns: []int{1}}}}
}

// wide has all types, a key of two columns, and an index that shares one.
func wide() api.Table {
	return api.Table{Id: 7, Key: []int{2, 0}, Columns: []api.Column{{Type: api.TypeInt, NotNull: true}, {Type: api.TypeBool}, {Type: api.TypeText, NotNull: true}, {Type: api.TypeInt}, {Type: api.TypeText}}, Indexes: []api.Index{{Id: 2, Columns: []int{3, 1}}, {Id: 5, Columns: []int{4, 2}, Unique: true}}}
}

func key(parts ...any) []byte {
	var b []byte
	for _, p := range parts {
		switch x := p.(type) {
		case int:
			b = append(b, byte(x))
		case int64:
			b = append(b, codec.KeyInt(x)...)
		case string:
			b = append(b, x...)
		}
	}
	return b
}

// P20.1
func TestSpans(t *testing.T) {
	is(t, "CatalogSpan", rowkey.CatalogSpan(), api.Span{From: []byte{1}, To: []byte{2}})
	is(t, "TableSpan", rowkey.TableSpan(5), api.Span{From: key(2, int64(5)), To: key(2, int64(6))})
	is(t, "TableSpan", rowkey.TableSpan(-1), api.Span{From: key(2, int64(-1)), To: key(2, int64(0))})
	is(t, "TableSpan", rowkey.TableSpan(math.MaxInt), api.Span{From: key(2, int64(math.MaxInt)), To: []byte{3}})
	is(t, "IndexSpan", rowkey.IndexSpan(5, 1), api.Span{From: key(2, int64(5), int64(1)), To: key(2, int64(5), int64(2))})
	is(t, "IndexSpan", rowkey.IndexSpan(5, math.MaxInt), api.Span{From: key(2, int64(5), int64(math.MaxInt)), To: key(2, int64(6))})
	is(t, "IndexSpan", rowkey.IndexSpan(math.MaxInt, math.MaxInt), api.Span{From: key(2, int64(math.MaxInt), int64(math.MaxInt)), To: []byte{3}})
}

// The examples; P20.2, P20.3
func TestRowAndEntry(t *testing.T) {
	x := small()
	kv, e := rowkey.Row(x, []api.Value{integer(5), text("x")})
	is(t, "Row", []any{kv, e}, []any{api.KV{Key: key(2, int64(1), int64(1), 1, int64(5)), Value: []byte{1, 1, 120}}, api.OK})
	kv, e = rowkey.Entry(x, x.Indexes[0], []api.Value{integer(5), null(api.TypeText)})
	is(t, "Entry", []any{kv, e}, []any{api.KV{Key: key(2, int64(1), int64(2), 2, 1, int64(5))}, api.OK})
	w := wide()
	row := []api.Value{integer(-1), boolean(1), text("k\x01"), null(api.TypeInt), text("")}
	kv, e = rowkey.Row(w, row)
	is(t, "Row", []any{kv, e}, []any{api.KV{Key: key(2, int64(7), int64(1), 1, "k\x01\x00\x01", 1, int64(-1)), Value: []byte{1, 1, 0, 1, 0}}, api.OK})
	back, e := rowkey.TakeRow(w, kv)
	is(t, "TakeRow", []any{back, e}, []any{row, api.OK})
	kv, e = rowkey.Entry(w, w.Indexes[0], row)
	is(t, "Entry", []any{kv.Key, e}, []any{key(2, int64(7), int64(2), 2, 1, 1, 1, "k\x01\x00\x01", 1, int64(-1)), api.OK})
	a, b, e := rowkey.TakeEntry(w, w.Indexes[0], kv)
	is(t, "TakeEntry", []any{a, b, e}, []any{[]api.Value{null(api.TypeInt), boolean(1)}, []api.Value{text("k\x01"), integer(-1)}, api.OK})
	for i, l := range [][]api.Value{nil, {integer(5)}, {null(api.TypeInt), text("x")}, {integer(5), text("x"), text("y")}, {text("5"), text("x")}, {integer(5), integer(1)}, {integer(5), text("\x00")}, {integer(5), text(strings.Repeat("x", 65537))}, {{Type: 1, Text: "x"}, text("x")}, {integer(5), {Type: 3, Null: true, Text: "x"}}} {
		kv, e := rowkey.Row(x, l)
		is(t, fmt.Sprint("Row ", i), []any{kv, e}, []any{api.KV{}, api.ErrRowForm})
		kv, e = rowkey.Entry(x, x.Indexes[0], l)
		is(t, fmt.Sprint("Entry ", i), []any{kv, e}, []any{api.KV{}, api.ErrRowForm})
	}
	long := func(n int) []api.Value { return []api.Value{integer(5), text(strings.Repeat("x", n))} }
	for n, want := range map[int]api.Errno{65532: api.OK, 65533: api.ErrRowLong} {
		_, e = rowkey.Row(x, long(n))
		is(t, "a long value", e, want)
	}
	for n, want := range map[int]api.Errno{227: api.OK, 228: api.ErrRowLong} {
		_, e = rowkey.Entry(x, x.Indexes[0], long(n))
		is(t, "a long entry", e, want)
	}
	for n, want := range map[int]api.Errno{227: api.OK, 228: api.ErrRowLong} {
		_, e = rowkey.Row(w, []api.Value{integer(1), null(2), text(strings.Repeat("x", n)), null(1), null(3)})
		is(t, "a long key", e, want)
	}
}

// Before all other errors: what is no table.
func TestTables(t *testing.T) {
	wrong := []func(x *api.Table){
		func(x *api.Table) { x.Columns[1].Type = 0 }, func(x *api.Table) { x.Columns[1].Type = 4 }, func(x *api.Table) { x.Key = nil }, func(x *api.Table) { x.Key = []int{0, 0} }, func(x *api.Table) { x.Key = []int{2} }, func(x *api.Table) { x.Key = []int{-1} }, func(x *api.Table) { x.Columns = nil },
	}
	check := func(i int, x api.Table, index bool) {
		_, e := rowkey.Entry(x, x.Indexes[0], nil)
		_, _, f := rowkey.TakeEntry(x, x.Indexes[0], api.KV{})
		_, g := rowkey.Part(x, 2, nil, api.Limit{}, api.Limit{})
		is(t, fmt.Sprint(i), []api.Errno{e, f, g}, []api.Errno{api.ErrArg, api.ErrArg, api.ErrArg})
		if !index {
			_, e = rowkey.Row(x, nil)
			_, f = rowkey.TakeRow(x, api.KV{})
			_, g = rowkey.Part(x, 1, nil, api.Limit{}, api.Limit{})
			is(t, fmt.Sprint(i), []api.Errno{e, f, g}, []api.Errno{api.ErrArg, api.ErrArg, api.ErrArg})
		}
	}
	for i, f := range wrong {
		x := small()
		f(&x)
		check(i, x, false)
	}
	for i, l := range [][]int{nil, {0, 0}, {2}, {-1}} {
		x := small()
		x.Indexes[0].Columns = l
		check(100+i, x, true)
	}
	x := small()
	x.Indexes[0].Columns = nil
	if _, e := rowkey.Row(x, []api.Value{integer(1), text("")}); e != api.OK {
		t.Errorf("an index that is not in question: %d", e)
	}
}

func randomRow(r *rand.Rand, t api.Table) []api.Value {
	var row []api.Value
	for _, c := range t.Columns {
		v := []api.Value{{}, integer(int64(r.Intn(5) - 2)), boolean(int64(r.Intn(2))), text([]string{"", "\x01", "a", "a\x01", "b", "\xff"}[r.Intn(6)])}[c.Type]
		if !c.NotNull && r.Intn(4) == 0 {
			v = null(c.Type)
		}
		row = append(row, v)
	}
	return row
}

func compare(a, b []api.Value, columns []int) int {
	for _, n := range columns {
		if c := expr.Order(a[n], b[n]); c != 0 {
			return c
		}
	}
	return 0
}

// P20.2, P20.3, P20.5
func TestRoundTripAndOrder(t *testing.T) {
	r := rand.New(rand.NewSource(205))
	for range 5000 {
		x := wide()
		if r.Intn(2) == 0 {
			x = small()
			x.Key = []int{1}
		}
		a, b := randomRow(r, x), randomRow(r, x)
		k, e := rowkey.Row(x, a)
		l, _ := rowkey.Row(x, b)
		back, f := rowkey.TakeRow(x, k)
		if e != api.OK || f != api.OK || !reflect.DeepEqual(back, a) {
			t.Fatalf("%v: %d %d", a, e, f)
		}
		if bytes.Compare(k.Key, l.Key) != compare(a, b, x.Key) {
			t.Fatalf("%v, %v", a, b)
		}
		for _, ix := range x.Indexes {
			k, _ := rowkey.Entry(x, ix, a)
			l, _ := rowkey.Entry(x, ix, b)
			if bytes.Compare(k.Key, l.Key) != compare(a, b, append(slices.Clone(ix.Columns), x.Key...)) {
				t.Fatalf("%v, %v", a, b)
			}
			p, q, e := rowkey.TakeEntry(x, ix, k)
			if e != api.OK {
				t.Fatalf("TakeEntry: %d", e)
			}
			for i, n := range ix.Columns {
				is(t, "a column", p[i], a[n])
			}
			for i, n := range x.Key {
				is(t, "a key's column", q[i], a[n])
			}
		}
	}
}

// P20.2, P20.3: only what is a row's is read.
func TestOtherBytes(t *testing.T) {
	r := rand.New(rand.NewSource(202))
	x := wide()
	for range 20000 {
		row := randomRow(r, x)
		kv, _ := rowkey.Row(x, row)
		ix := x.Indexes[r.Intn(2)]
		en, _ := rowkey.Entry(x, ix, row)
		spoil := func(b []byte) []byte {
			switch r.Intn(3) {
			case 0:
				return b[:r.Intn(len(b)+1)]
			case 1:
				return append(slices.Clone(b), byte(r.Intn(4)))
			}
			b = slices.Clone(b)
			if len(b) > 0 {
				b[r.Intn(len(b))] = byte(r.Intn(4))
			}
			return b
		}
		if r.Intn(2) == 0 {
			kv.Key = spoil(kv.Key)
		} else {
			kv.Value = spoil(kv.Value)
		}
		if back, e := rowkey.TakeRow(x, kv); e == api.OK {
			again, _ := rowkey.Row(x, back)
			if !bytes.Equal(again.Key, kv.Key) || !bytes.Equal(again.Value, kv.Value) {
				t.Fatalf("%v", kv)
			}
		} else if e != api.ErrRowForm || back != nil {
			t.Fatalf("TakeRow: %d", e)
		}
		en.Key = spoil(en.Key)
		if a, b, e := rowkey.TakeEntry(x, ix, en); e == api.OK {
			full := make([]api.Value, len(x.Columns))
			for i, c := range x.Columns {
				full[i] = api.Value{Type: c.Type}
			}
			for i, n := range ix.Columns {
				full[n] = a[i]
			}
			for i, n := range x.Key {
				full[n] = b[i]
			}
			if again, _ := rowkey.Entry(x, ix, full); !bytes.Equal(again.Key, en.Key) {
				t.Fatalf("%v", en)
			}
		} else if e != api.ErrRowForm || a != nil || b != nil {
			t.Fatalf("TakeEntry: %d", e)
		}
	}
	en, _ := rowkey.Entry(x, x.Indexes[1], randomRow(r, x))
	en.Value = []byte{0}
	if _, _, e := rowkey.TakeEntry(x, x.Indexes[1], en); e != api.ErrRowForm {
		t.Errorf("an entry with a value: %d", e)
	}
	differ := api.KV{Key: key(2, int64(7), int64(5), 2, 1, "a\x00\x01", 1, "b\x00\x01", 1, int64(0))}
	if _, _, e := rowkey.TakeEntry(x, x.Indexes[1], differ); e != api.ErrRowForm {
		t.Errorf("a column that is told twice, otherwise: %d", e)
	}
}

func limit(v api.Value, open bool) api.Limit { return api.Limit{Has: true, Open: open, Value: v} }

// P20.4
func TestPart(t *testing.T) {
	x := small()
	p, e := rowkey.Part(x, 1, nil, limit(integer(3), true), api.Limit{})
	prefix := key(2, int64(1), int64(1))
	is(t, "the example", []any{p, e}, []any{api.Span{From: append(slices.Clone(prefix), key(1, int64(3), 3)...), To: append(slices.Clone(prefix), 2)}, api.OK})
	w := wide()
	base := key(2, int64(7), int64(5))
	eq := []api.Value{text("a")}
	full := key(string(base), 1, "a\x00\x01")
	b := key(1, "b\x00\x01")
	for i, c := range []struct {
		equal     []api.Value
		low, high api.Limit
		from, to  []byte
	}{
		{nil, api.Limit{}, api.Limit{}, base, append(slices.Clone(base), 3)}, {eq, api.Limit{}, api.Limit{}, full, append(slices.Clone(full), 3)}, {eq, limit(text("b"), false), api.Limit{}, slices.Concat(full, b), append(slices.Clone(full), 2)}, {eq, limit(text("b"), true), limit(text("b"), true), slices.Concat(full, b, []byte{3}), slices.Concat(full, b)},
		{eq, api.Limit{}, limit(text("b"), false), append(slices.Clone(full), 1), slices.Concat(full, b, []byte{3})}, {eq, api.Limit{}, limit(text("b"), true), append(slices.Clone(full), 1), slices.Concat(full, b)}, {append(slices.Clone(eq), text("b")), api.Limit{Open: true}, api.Limit{}, slices.Concat(full, b), slices.Concat(full, b, []byte{3})},
	} {
		p, e := rowkey.Part(w, 5, c.equal, c.low, c.high)
		is(t, fmt.Sprint(i), []any{p.From, p.To, e}, []any{c.from, c.to, api.OK})
	}
	three := []api.Value{text("a"), text("a"), text("a")}
	for i, c := range []struct {
		index     int
		equal     []api.Value
		low, high api.Limit
	}{{3, nil, api.Limit{}, api.Limit{}}, {0, nil, api.Limit{}, api.Limit{}}, {5, three, api.Limit{}, api.Limit{}}, {5, three[:2], limit(text("a"), false), api.Limit{}}, {5, three[:2], api.Limit{}, limit(text("a"), false)}, {5, []api.Value{null(3)}, api.Limit{}, api.Limit{}}, {5, []api.Value{integer(1)}, api.Limit{}, api.Limit{}}, {5, []api.Value{text("\x00")}, api.Limit{}, api.Limit{}}, {5, nil, limit(integer(1), false), api.Limit{}}, {5, nil, limit(null(3), false), api.Limit{}}, {5, nil, api.Limit{}, limit(boolean(1), false)}, {5, nil, api.Limit{}, limit(text("\x00"), false)}} {
		if p, e := rowkey.Part(w, c.index, c.equal, c.low, c.high); e != api.ErrArg || p.From != nil || p.To != nil {
			t.Errorf("%d: %d", i, e)
		}
	}
}

func in(p api.Span, k []byte) bool {
	return bytes.Compare(k, p.From) >= 0 && bytes.Compare(k, p.To) < 0
}

// P20.6
func TestWhatAPartHas(t *testing.T) {
	r := rand.New(rand.NewSource(206))
	for range 20000 {
		x := wide()
		row, other := randomRow(r, x), randomRow(r, x)
		ends := randomRow(r, x)
		index, columns := 1, x.Key
		kv, _ := rowkey.Row(x, row)
		if k := r.Intn(3); k > 0 {
			index, columns = x.Indexes[k-1].Id, x.Indexes[k-1].Columns
			kv, _ = rowkey.Entry(x, x.Indexes[k-1], row)
		}
		n := r.Intn(len(columns) + 1)
		var equal []api.Value
		want := true
		for _, c := range columns[:n] {
			equal = append(equal, other[c])
			want = want && expr.Order(row[c], other[c]) == 0 && !row[c].Null
		}
		var low, high api.Limit
		if n < len(columns) {
			c := columns[n]
			if r.Intn(2) == 0 {
				low = limit(other[c], r.Intn(2) == 0)
				k := expr.Order(row[c], low.Value)
				want = want && !row[c].Null && (k > 0 || k == 0 && !low.Open)
			}
			if r.Intn(2) == 0 {
				high = limit(ends[c], r.Intn(2) == 0)
				k := expr.Order(row[c], high.Value)
				want = want && !row[c].Null && (k < 0 || k == 0 && !high.Open)
			}
		}
		p, e := rowkey.Part(x, index, equal, low, high)
		if e != api.OK {
			continue
		}
		if in(p, kv.Key) != want {
			t.Fatalf("%v in %v %v %v of %d: not %v", row, equal, low, high, index, want)
		}
		for _, i := range []int{0, 1, 2, 3, 5, 6} {
			if in(rowkey.IndexSpan(7, i), kv.Key) != (i == index) {
				t.Fatalf("IndexSpan %d", i)
			}
		}
		for _, i := range []int{6, 7, 8} {
			if in(rowkey.TableSpan(i), kv.Key) != (i == 7) {
				t.Fatalf("TableSpan %d", i)
			}
		}
	}
}
