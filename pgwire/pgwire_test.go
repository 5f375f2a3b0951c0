package pgwire_test

import (
	"math"
	"math/rand"
	"reflect"
	"strings"
	"testing"

	"cormorant/api"
	"cormorant/pgwire"
)

func fronts() map[string]api.Front {
	return map[string]api.Front{
		"\x00\x00\x00\x08\x04\xd2\x16\x2f":                                 {Kind: api.FrontSecure},
		"\x00\x00\x00\x09\x00\x03\x00\x00\x00":                             {Kind: api.FrontStartup},
		"\x00\x00\x00\x10\x00\x03\x00\x00user\x00a\x00\x00":                {Kind: api.FrontStartup, Params: []api.Param{{Name: "user", Value: "a"}}},
		"\x00\x00\x00\x11\x00\x03\x00\x00us\x00a\x00b\x00\x00\x00":         {Kind: api.FrontStartup, Params: []api.Param{{Name: "us", Value: "a"}, {Name: "b"}}},
		"\x00\x00\x00\x10\x04\xd2\x16\x2e\xff\xff\xff\xfe\x00\x00\x01\x02": {Kind: api.FrontCancel, Pid: -2, Secret: 258},
	}
}

func tagged() map[string]api.Front {
	return map[string]api.Front{
		"Q\x00\x00\x00\x06;\x00": {Kind: api.FrontQuery, Text: ";"}, "Q\x00\x00\x00\x05\x00": {Kind: api.FrontQuery}, "X\x00\x00\x00\x04": {Kind: api.FrontTerminate}, "P\x00\x00\x00\x04": {Kind: api.FrontOther, Tag: 'P'}, "\x01\x00\x00\x00\x04": {Kind: api.FrontOther, Tag: 1}, "\x7f\x00\x00\x00\x04": {Kind: api.FrontOther, Tag: 127},
	}
}

func backs() map[string]api.Back {
	return map[string]api.Back{
		"R\x00\x00\x00\x08\x00\x00\x00\x00": {Kind: api.BackAuthOk}, "S\x00\x00\x00\x08a\x00b\x00": {Kind: api.BackParameter, Name: "a", Text: "b"}, "K\x00\x00\x00\x0c\x00\x00\x00\x07\xff\xff\xff\xff": {Kind: api.BackKeyData, Pid: 7, Secret: -1}, "Z\x00\x00\x00\x05I": {Kind: api.BackReady, Status: 'I'}, "Z\x00\x00\x00\x05T": {Kind: api.BackReady, Status: 'T'}, "Z\x00\x00\x00\x05E": {Kind: api.BackReady, Status: 'E'},
		"T\x00\x00\x00\x06\x00\x00": {Kind: api.BackFields}, "D\x00\x00\x00\x06\x00\x00": {Kind: api.BackRow}, "C\x00\x00\x00\x06x\x00": {Kind: api.BackComplete, Text: "x"}, "I\x00\x00\x00\x04": {Kind: api.BackEmpty}, "N": {Kind: api.BackRefuse},
		"T\x00\x00\x00\x41\x00\x03a\x00\x00\x00\x00\x00\x00\x00\x00\x00\x00\x14\x00\x08\xff\xff\xff\xff\x00\x00\x00\x00\x00\x00\x00\x00\x00\x00\x00\x00\x10\x00\x01\xff\xff\xff\xff\x00\x00c\x00\x00\x00\x00\x00\x00\x00\x00\x00\x00\x19\xff\xff\xff\xff\xff\xff\x00\x00": {Kind: api.BackFields, Fields: []api.Field{{Name: "a", Type: api.TypeInt}, {Type: api.TypeBool}, {Name: "c", Type: api.TypeText}}},
		"D\x00\x00\x00\x15\x00\x03\xff\xff\xff\xff\x00\x00\x00\x00\x00\x00\x00\x03a\x00b": {Kind: api.BackRow, Cells: []api.Cell{{Null: true}, {}, {Text: "a\x00b"}}},
		"E\x00\x00\x00\x1dSERROR\x00VERROR\x00C42601\x00Mx\x00\x00":                       {Kind: api.BackError, State: "42601", Text: "x"},
		"E\x00\x00\x00\x1cSFATAL\x00VFATAL\x00C0AZ9X\x00M\x00\x00":                        {Kind: api.BackError, State: "0AZ9X", Fatal: true},
	}
}

// P23.1, P23.2, P23.6
func TestFronts(t *testing.T) {
	check := func(l map[string]api.Front, startup bool) {
		for want, f := range l {
			b, e := pgwire.PutFront(f)
			if string(b) != want || e != api.OK {
				t.Errorf("%v: %q %d, want %q", f, b, e, want)
			}
			for _, tail := range []string{"", "Q", "\x00\x00"} {
				if g, n, e := pgwire.TakeFront([]byte(want+tail), startup); !reflect.DeepEqual(g, f) || n != len(want) || e != api.OK {
					t.Errorf("%q: %v %d %d", want, g, n, e)
				}
			}
			for i := range want {
				if g, n, e := pgwire.TakeFront([]byte(want[:i]), startup); !reflect.DeepEqual(g, api.Front{}) || n != 0 || e != api.ErrCodecShort {
					t.Errorf("%q: %v %d %d", want[:i], g, n, e)
				}
			}
		}
	}
	check(fronts(), true)
	check(tagged(), false)
	if f, n, e := pgwire.TakeFront([]byte("P\x00\x00\x00\x07a\x00bQ"), false); !reflect.DeepEqual(f, api.Front{Kind: api.FrontOther, Tag: 'P'}) || n != 8 || e != api.OK {
		t.Errorf("another one: %v %d %d", f, n, e)
	}
}

func startup(params int, extra string) string {
	body := "\x00\x03\x00\x00" + strings.Repeat("a\x00b\x00", params) + extra
	n := len(body) + 4
	return string([]byte{0, 0, byte(n >> 8), byte(n)}) + body
}

// P23.1
func TestFrontErrors(t *testing.T) {
	for b, want := range map[string]api.Errno{
		"\x00\x00\x00\x07": api.ErrWireForm, "\xff\xff\xff\xff": api.ErrWireForm, "\x00\x00\x27\x11": api.ErrWireLong, "\x00\x00\x27\x10": api.ErrCodecShort, "\x7f\xff\xff\xff": api.ErrWireLong, "\x00\x00\x00\x08\x00\x03\x00": api.ErrCodecShort, "\x00\x00\x00\x08\x00\x03\x00\x01": api.ErrWireVersion, "\x00\x00\x00\x08\x00\x02\x00\x00": api.ErrWireVersion, "\x00\x00\x00\x09\x04\xd2\x16\x2fx": api.ErrWireForm, "\x00\x00\x00\x0c\x04\xd2\x16\x2exxxx": api.ErrWireForm, "\x00\x00\x00\x08\x04\xd2\x16\x2e": api.ErrWireForm, "\x00\x00\x00\x08\x00\x03\x00\x00": api.ErrWireForm,
		"\x00\x00\x00\x0a\x00\x03\x00\x00\x00\x00": api.ErrWireForm, "\x00\x00\x00\x0a\x00\x03\x00\x00a\x00": api.ErrWireForm, "\x00\x00\x00\x0b\x00\x03\x00\x00a\x00\x00": api.ErrWireForm, "\x00\x00\x00\x0c\x00\x03\x00\x00a\x00\x00\x00": api.OK, "\x00\x00\x00\x0b\x00\x03\x00\x00\x00b\x00": api.ErrWireForm, "\x00\x00\x00\x09\x00\x03\x00\x00a": api.ErrWireForm,
		startup(32, "\x00"): api.OK, startup(32, "x"): api.ErrWireLong, startup(33, "\x00"): api.ErrWireLong, startup(32, "x\x00y"): api.ErrWireLong, startup(32, ""): api.ErrWireForm, startup(32, "\x00\x00"): api.ErrWireForm, startup(31, "x"): api.ErrWireForm,
	} {
		f, n, e := pgwire.TakeFront([]byte(b), true)
		if e != want || e != api.OK && (n != 0 || !reflect.DeepEqual(f, api.Front{})) {
			t.Errorf("%q: %d, want %d", b, e, want)
		}
	}
	for b, want := range map[string]api.Errno{
		"": api.ErrCodecShort, "\x00": api.ErrWireForm, "\x80": api.ErrWireForm, "\xc8": api.ErrWireForm, "Q": api.ErrCodecShort, "Q\x00\x00": api.ErrCodecShort, "Q\x00\x00\x00\x03": api.ErrWireForm, "Q\xff\xff\xff\xff": api.ErrWireForm, "Q\x00\x10\x00\x01": api.ErrWireLong, "Q\x00\x10\x00\x00": api.ErrCodecShort, "Q\x00\x00\x00\x06;;": api.ErrWireForm, "Q\x00\x00\x00\x04": api.ErrWireForm, "Q\x00\x00\x00\x07;\x00\x00": api.ErrWireForm, "X\x00\x00\x00\x05\x00": api.ErrWireForm, "P\x00\x00\x00\x03": api.ErrWireForm, "P\x00\x10\x00\x01": api.ErrWireLong,
	} {
		f, n, e := pgwire.TakeFront([]byte(b), false)
		if e != want || n != 0 || !reflect.DeepEqual(f, api.Front{}) {
			t.Errorf("%q: %d, want %d", b, e, want)
		}
	}
	if f, n, e := pgwire.TakeFront([]byte("Q\x00\x10\x00\x00"+strings.Repeat("x", 1<<20-5)+"\x00"), false); e != api.OK || n != 1<<20+1 || len(f.Text) != 1<<20-5 {
		t.Errorf("the longest: %d", e)
	}
}

// P23.2
func TestPutFrontErrors(t *testing.T) {
	params := func(n int, value string) []api.Param {
		var l []api.Param
		for range n {
			l = append(l, api.Param{Name: "a", Value: value})
		}
		return l
	}
	for i, c := range []struct {
		f    api.Front
		want api.Errno
	}{
		{api.Front{}, api.ErrWireForm}, {api.Front{Kind: 7}, api.ErrWireForm}, {api.Front{Kind: api.FrontSecure, Text: "x"}, api.ErrWireForm}, {api.Front{Kind: api.FrontTerminate, Tag: 'X'}, api.ErrWireForm}, {api.Front{Kind: api.FrontQuery, Text: "a\x00"}, api.ErrWireForm}, {api.Front{Kind: api.FrontQuery, Pid: 1}, api.ErrWireForm}, {api.Front{Kind: api.FrontCancel, Pid: 1 << 31}, api.ErrWireForm}, {api.Front{Kind: api.FrontCancel, Secret: -1<<31 - 1}, api.ErrWireForm}, {api.Front{Kind: api.FrontCancel, Pid: math.MinInt32, Secret: math.MaxInt32}, api.OK},
		{api.Front{Kind: api.FrontOther}, api.ErrWireForm}, {api.Front{Kind: api.FrontOther, Tag: 128}, api.ErrWireForm}, {api.Front{Kind: api.FrontOther, Tag: 'Q'}, api.ErrWireForm}, {api.Front{Kind: api.FrontOther, Tag: 'X'}, api.ErrWireForm}, {api.Front{Kind: api.FrontStartup, Params: []api.Param{{}}}, api.ErrWireForm}, {api.Front{Kind: api.FrontStartup, Params: []api.Param{{Name: "a\x00"}}}, api.ErrWireForm}, {api.Front{Kind: api.FrontStartup, Params: []api.Param{{Name: "a", Value: "\x00"}}}, api.ErrWireForm}, {api.Front{Kind: api.FrontStartup, Tag: 1}, api.ErrWireForm}, {api.Front{Kind: api.FrontQuery, Params: params(1, "")}, api.ErrWireForm}, {api.Front{Kind: api.FrontQuery, Secret: 1}, api.ErrWireForm},
		{api.Front{Kind: api.FrontStartup, Params: params(32, "")}, api.OK}, {api.Front{Kind: api.FrontStartup, Params: params(33, "")}, api.ErrWireLong}, {api.Front{Kind: api.FrontStartup, Params: params(1, strings.Repeat("x", 9988))}, api.OK}, {api.Front{Kind: api.FrontStartup, Params: params(1, strings.Repeat("x", 9989))}, api.ErrWireLong}, {api.Front{Kind: api.FrontQuery, Text: strings.Repeat("x", 1<<20-5)}, api.OK}, {api.Front{Kind: api.FrontQuery, Text: strings.Repeat("x", 1<<20-4)}, api.ErrWireLong},
	} {
		if b, e := pgwire.PutFront(c.f); e != c.want || e != api.OK && b != nil {
			t.Errorf("%d: %d, want %d", i, e, c.want)
		}
	}
}

// P23.3, P23.6
func TestBacks(t *testing.T) {
	for want, m := range backs() {
		b, e := pgwire.Put(m)
		if string(b) != want || e != api.OK {
			t.Errorf("%v: %q %d, want %q", m, b, e, want)
		}
		for _, tail := range []string{"", "Z", "\x00\x00"} {
			if g, n, e := pgwire.Take([]byte(want + tail)); !reflect.DeepEqual(g, m) || n != len(want) || e != api.OK {
				t.Errorf("%q: %v %d %d", want, g, n, e)
			}
		}
		for i := range want {
			if g, n, e := pgwire.Take([]byte(want[:i])); !reflect.DeepEqual(g, api.Back{}) || n != 0 || e != api.ErrCodecShort {
				t.Errorf("%q: %v %d %d", want[:i], g, n, e)
			}
		}
	}
	field := api.Field{Name: "a", Type: api.TypeInt}
	for i, m := range []api.Back{
		{}, {Kind: 11}, {Kind: -1}, {Kind: api.BackAuthOk, Text: "x"}, {Kind: api.BackParameter, Name: "a\x00"}, {Kind: api.BackParameter, Text: "\x00"}, {Kind: api.BackParameter, Pid: 1}, {Kind: api.BackKeyData, Pid: 1 << 31}, {Kind: api.BackKeyData, Secret: -1<<31 - 1}, {Kind: api.BackKeyData, Name: "x"}, {Kind: api.BackReady}, {Kind: api.BackReady, Status: 'X'}, {Kind: api.BackReady, Status: 'I', Secret: 1}, {Kind: api.BackFields, Fields: []api.Field{{Name: "a"}}}, {Kind: api.BackFields, Fields: []api.Field{{Type: 4}}}, {Kind: api.BackFields, Fields: []api.Field{{Name: "\x00", Type: 1}}}, {Kind: api.BackFields, Fields: many(field, 1601)}, {Kind: api.BackFields, Cells: []api.Cell{{}}},
		{Kind: api.BackRow, Cells: []api.Cell{{Null: true, Text: "x"}}}, {Kind: api.BackRow, Cells: many(api.Cell{}, 1601)}, {Kind: api.BackRow, Fields: []api.Field{field}}, {Kind: api.BackComplete, Text: "\x00"}, {Kind: api.BackComplete, Name: "x"}, {Kind: api.BackEmpty, Status: 'I'}, {Kind: api.BackError, State: "4260", Text: "x"}, {Kind: api.BackError, State: "42p01"}, {Kind: api.BackError, State: "42601", Text: "\x00"}, {Kind: api.BackError, State: "42601", Name: "x"}, {Kind: api.BackRefuse, Text: "x"}, {Kind: api.BackComplete, Fatal: true}, {Kind: api.BackComplete, State: "42601"},
	} {
		if b, e := pgwire.Put(m); b != nil || e != api.ErrWireForm {
			t.Errorf("%d: %d", i, e)
		}
	}
	for _, m := range []api.Back{{Kind: api.BackFields, Fields: many(field, 1600)}, {Kind: api.BackRow, Cells: many(api.Cell{Null: true}, 1600)}} {
		b, e := pgwire.Put(m)
		if g, n, f := pgwire.Take(b); e != api.OK || f != api.OK || n != len(b) || !reflect.DeepEqual(g, m) {
			t.Errorf("1600 columns: %d %d", e, f)
		}
	}
	long := strings.Repeat("x", 1<<20)
	if b, e := pgwire.Put(api.Back{Kind: api.BackRow, Cells: many(api.Cell{Text: long}, 1025)}); b != nil || e != api.ErrWireLong {
		t.Errorf("a long one: %d", e)
	}
	for b, want := range map[string]api.Errno{"": api.ErrCodecShort, "x": api.ErrWireForm, "\x00": api.ErrWireForm, "Z\x00": api.ErrCodecShort, "Z\x00\x00\x00\x03": api.ErrWireForm, "Z\xff\xff\xff\xff": api.ErrWireForm, "Z\x40\x00\x00\x01": api.ErrWireLong, "Z\x40\x00\x00\x00": api.ErrCodecShort, "Z\x00\x00\x00\x05X": api.ErrWireForm, "Z\x00\x00\x00\x04": api.ErrWireForm, "R\x00\x00\x00\x08\x00\x00\x00\x01": api.ErrWireForm, "I\x00\x00\x00\x05\x00": api.ErrWireForm, "C\x00\x00\x00\x04": api.ErrWireForm, "D\x00\x00\x00\x0a\x00\x01\xff\xff\xff\xfe": api.ErrWireForm, "D\x00\x00\x00\x0a\x00\x01\x7f\xff\xff\xff": api.ErrWireForm, "D\x00\x00\x00\x06\xff\xff": api.ErrWireForm, "T\x00\x00\x00\x06\x00\x01": api.ErrWireForm, "E\x00\x00\x00\x1dSERROR\x00VFATAL\x00C42601\x00Mx\x00\x00": api.ErrWireForm, "E\x00\x00\x00\x05\x00": api.ErrWireForm} {
		if m, n, e := pgwire.Take([]byte(b)); e != want || n != 0 || !reflect.DeepEqual(m, api.Back{}) {
			t.Errorf("%q: %d, want %d", b, e, want)
		}
	}
}

func many[T any](x T, n int) []T {
	l := make([]T, n)
	for i := range l {
		l[i] = x
	}
	return l
}

// P23.4
func TestReports(t *testing.T) {
	want := map[string][]api.Errno{
		"54001 statement is too large": {api.ErrSqlLong, api.ErrSqlNest, api.ErrSqlParts}, "42601 syntax error": {api.ErrSqlRune, api.ErrSqlNumber, api.ErrSqlQuote, api.ErrSqlSyntax, api.ErrSqlForm, api.ErrCount}, "42P01 no such table": {api.ErrNoTable}, "42P07 it is there already": {api.ErrTwiceTable, api.ErrTwiceIndex}, "42703 no such column": {api.ErrNoColumn}, "42701 the column is named twice": {api.ErrTwiceColumn}, "42702 the column is ambiguous": {api.ErrTwoColumns}, "42712 the table is named twice": {api.ErrTwiceSource}, "42704 no such index": {api.ErrNoIndex}, "42804 types do not match": {api.ErrTypes}, "42803 it must stand in GROUP BY or in an aggregate": {api.ErrGrouping}, "42P10 it must stand in the select list": {api.ErrOrderItem}, "42P16 one primary key is needed": {api.ErrNoKey},
		"54000 a limit is exceeded": {api.ErrCatalogFull, api.ErrRowLong, api.ErrExecMany}, "22003 number out of range": {api.ErrOutOfRange}, "22012 division by zero": {api.ErrDivision}, "22001 text is too long": {api.ErrTextLong}, "23505 the key is there already": {api.ErrExecUnique}, "23502 null where none may be": {api.ErrExecNull}, "53100 the disk is full": {api.ErrDiskFull, api.ErrDiskMany}, "40001 begin the transaction again": {api.ErrTxnAgain, api.ErrReplicaAgain}, "53000 out of timestamps": {api.ErrClockEnd}, "08P01 protocol violation": {api.ErrWireForm, api.ErrWireLong, api.ErrWireVersion}, "XX001 stored rows are damaged": {api.ErrExecDamage, api.ErrCatalogForm},
	}
	told := map[api.Errno]string{}
	for text, l := range want {
		for _, e := range l {
			told[e] = text
		}
	}
	for e := api.Errno(-5); e < 400; e++ {
		text, ok := told[e]
		if !ok {
			text = "XX000 internal error"
		}
		if got := pgwire.State(e) + " " + pgwire.Words(e); got != text {
			t.Errorf("%d: %s, want %s", e, got, text)
		}
	}
}

// P23.5
func TestCells(t *testing.T) {
	for _, c := range []struct {
		v    api.Value
		want api.Cell
	}{{api.Value{Type: 1, Null: true}, api.Cell{Null: true}}, {api.Value{Null: true, Text: "x", Int: 5}, api.Cell{Null: true}}, {api.Value{Type: 1, Int: math.MinInt64}, api.Cell{Text: "-9223372036854775808"}}, {api.Value{Type: 1, Int: 7}, api.Cell{Text: "7"}}, {api.Value{Type: 2, Int: 1}, api.Cell{Text: "t"}}, {api.Value{Type: 2}, api.Cell{Text: "f"}}, {api.Value{Type: 2, Int: 2}, api.Cell{Text: "f"}}, {api.Value{Type: 3, Text: "x\x00"}, api.Cell{Text: "x\x00"}}, {api.Value{Type: 9, Text: "y", Int: 4}, api.Cell{Text: "y"}}} {
		if got := pgwire.CellOf(c.v); got != c.want {
			t.Errorf("%v: %v", c.v, got)
		}
	}
}

// P23.7
func TestFragments(t *testing.T) {
	r := rand.New(rand.NewSource(237))
	var texts []string
	for s := range tagged() {
		texts = append(texts, s)
	}
	for range 300 {
		var whole string
		var want []api.Front
		for range r.Intn(5) {
			s := texts[r.Intn(len(texts))]
			whole += s
			want = append(want, tagged()[s])
		}
		var got []api.Front
		var buffer []byte
		for len(whole) > 0 {
			n := 1 + r.Intn(len(whole))
			buffer = append(buffer, whole[:n]...)
			whole = whole[n:]
			for {
				f, n, e := pgwire.TakeFront(buffer, false)
				if e == api.ErrCodecShort {
					break
				}
				if e != api.OK {
					t.Fatalf("TakeFront: %d", e)
				}
				got = append(got, f)
				buffer = buffer[n:]
			}
		}
		if !reflect.DeepEqual(got, want) {
			t.Fatalf("%v, want %v", got, want)
		}
	}
	for range 50000 {
		b := make([]byte, r.Intn(20))
		for i := range b {
			b[i] = []byte{0, 0, 0, 4, 8, 9, 'Q', 'X', 'a', 3}[r.Intn(10)]
		}
		if r.Intn(3) == 0 && len(b) > 8 {
			copy(b, []byte{0, 0, 0, byte(8 + r.Intn(12)), 0, 3, 0, 0})
		}
		for _, first := range []bool{true, false} {
			f, n, e := pgwire.TakeFront(b, first)
			for i := range b {
				if g, k, d := pgwire.TakeFront(b[:i], first); d != api.ErrCodecShort && (d != e || k != n || !reflect.DeepEqual(f, g)) {
					t.Fatalf("%v: %d, and of %d bytes %d", b, e, i, d)
				}
			}
			if n > len(b) {
				t.Fatalf("%v: %d bytes", b, n)
			}
		}
		if m, n, e := pgwire.Take(b); e == api.OK {
			if again, _ := pgwire.Put(m); string(again) != string(b[:n]) {
				t.Fatalf("%v", b)
			}
		}
	}
}
