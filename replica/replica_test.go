package replica_test

import (
	"bytes"
	"fmt"
	"maps"
	"math/rand"
	"reflect"
	"slices"
	"strings"
	"testing"

	"cormorant/api"
	"cormorant/replica"
)

func at(wall, logic int) api.Stamp { return api.Stamp{Wall: wall, Logic: logic} }

var end = at(api.MaxWall, api.MaxLogic)

func is(t *testing.T, what string, got, want any) {
	t.Helper()
	if !reflect.DeepEqual(got, want) {
		t.Errorf("%s: %v, want %v", what, got, want)
	}
}

func span(from, to string) api.Span { return api.Span{From: []byte(from), To: []byte(to)} }

func machine(t *testing.T, from, to string) *replica.Machine {
	t.Helper()
	m, e := replica.New(span(from, to))
	if e != api.OK {
		t.Fatalf("New: %d", e)
	}
	return m
}

// apply does a command that is no split.
func apply(t *testing.T, m *replica.Machine, c api.Cmd) api.Res {
	t.Helper()
	r, other := m.Apply(c)
	if other != nil {
		t.Fatal("a new machine")
	}
	return r
}

func get(txn int, s api.Stamp, key string) api.Cmd {
	return api.Cmd{Kind: api.CmdGet, Txn: txn, At: s, Key: []byte(key)}
}

func scan(txn int, s api.Stamp, from, to string, most int) api.Cmd {
	return api.Cmd{Kind: api.CmdScan, Txn: txn, At: s, Span: span(from, to), Most: most}
}

func put(txn, seq int, s api.Stamp, key, value string) api.Cmd {
	return api.Cmd{Kind: api.CmdPut, Txn: txn, Seq: seq, At: s, Key: []byte(key), Value: []byte(value)}
}

func refresh(txn, seq int, s, to api.Stamp, from, upTo string) api.Cmd {
	return api.Cmd{Kind: api.CmdRefresh, Txn: txn, Seq: seq, At: s, To: to, Span: span(from, upTo)}
}

func begin(txn, seq int, s api.Stamp) api.Cmd {
	return api.Cmd{Kind: api.CmdBegin, Txn: txn, Seq: seq, At: s}
}

func finish(txn int, yes bool, s api.Stamp) api.Cmd {
	return api.Cmd{Kind: api.CmdEnd, Txn: txn, Yes: yes, At: s}
}

func push(txn, by int, s api.Stamp) api.Cmd {
	return api.Cmd{Kind: api.CmdPush, Txn: txn, By: by, At: s}
}

func forget(txn int) api.Cmd { return api.Cmd{Kind: api.CmdForget, Txn: txn} }

func resolve(txn int, yes bool, s api.Stamp, from, to string) api.Cmd {
	return api.Cmd{Kind: api.CmdResolve, Txn: txn, Yes: yes, At: s, Span: span(from, to)}
}

func collect(s api.Stamp) api.Cmd { return api.Cmd{Kind: api.CmdCollect, At: s} }

func split(key string, by int) api.Cmd {
	return api.Cmd{Kind: api.CmdSplit, Key: []byte(key), By: by}
}

func stamped(s api.Stamp) api.Res { return api.Res{At: s} }

// The examples.
func TestExamples(t *testing.T) {
	m := machine(t, "", "")
	is(t, "Get", apply(t, m, get(1, at(5, 0), "a")), api.Res{})
	is(t, "Put", apply(t, m, put(2, 1, at(3, 0), "a", "x")), stamped(at(5, 1)))
	is(t, "Put again", apply(t, m, put(2, 1, at(3, 0), "a", "x")), stamped(at(5, 1)))
	is(t, "Get", apply(t, m, get(1, at(6, 0), "a")), api.Res{Code: api.ErrMvccIntent, By: 2})
	is(t, "Begin", apply(t, m, begin(2, 2, at(3, 0))), api.Res{State: api.TxnPending})
	is(t, "Push", apply(t, m, push(2, 1, at(2, 0))), api.Res{State: api.TxnAborted, At: at(3, 0)})
	is(t, "Resolve", apply(t, m, resolve(2, false, at(0, 0), "", "")), api.Res{})
	is(t, "Get", apply(t, m, get(1, at(6, 0), "a")), api.Res{})
	r, other := m.Apply(split("m", 2))
	is(t, "Split", r, api.Res{})
	is(t, "Span", m.Span(), span("", "m"))
	is(t, "its Span", other.Span(), span("m", ""))
	is(t, "Get", apply(t, m, get(1, at(6, 0), "z")), api.Res{Code: api.ErrReplicaKey})
}

func commands() []api.Cmd {
	long := strings.Repeat("k", 110)
	return []api.Cmd{
		get(0, at(1, 2), "a"), get(api.MaxWall, end, long), scan(0, at(0, 0), "", "", 1), scan(3, at(1, 0), "a", long+"k", 90),
		put(1, 1, at(1, 1), "a", ""), put(1, api.MaxWall, at(1, 1), long, string(make([]byte, 10000))), {Kind: api.CmdPut, Txn: 1, Seq: 1, Key: []byte("a"), Del: true},
		refresh(1, 2, at(3, 4), at(5, 6), "a", "b"), begin(1, 2, at(3, 4)), finish(1, true, at(3, 4)), finish(1, false, at(3, 4)), push(1, 2, at(3, 4)), forget(7),
		resolve(1, true, at(3, 4), "a", ""), resolve(1, false, at(0, 0), "", "b"), collect(at(3, 4)), split("a", 255), split("a", 1),
	}
}

func sameCmd(a, b api.Cmd) bool {
	return fmt.Sprintf("%q", fmt.Sprintf("%+v", a)) == fmt.Sprintf("%q", fmt.Sprintf("%+v", b))
}

// P14.1
func TestCommandForms(t *testing.T) {
	seen := map[string]int{}
	for i, c := range commands() {
		b, e := replica.Encode(c)
		if e != api.OK || len(b) > api.MaxData {
			t.Errorf("%d: %d, %d bytes", i, e, len(b))
		}
		seen[string(b)]++
		x, e := replica.Decode(b)
		if e != api.OK || !sameCmd(x, c) {
			t.Errorf("%d: %v %d", i, x, e)
		}
		for k := range min(len(b), 200) {
			if _, e := replica.Decode(b[:k]); e != api.ErrReplicaForm {
				t.Errorf("%d: %d bytes: %d", i, k, e)
			}
		}
		if _, e := replica.Decode(append(b, 0)); e != api.ErrReplicaForm {
			t.Errorf("%d: a byte more: %d", i, e)
		}
	}
	if len(seen) != len(commands()) {
		t.Error("two commands have the same bytes")
	}
	long := strings.Repeat("k", 111)
	wrong := []api.Cmd{
		{}, {Kind: 12}, {Kind: -1}, get(-1, at(1, 1), "a"), get(api.MaxWall+1, at(1, 1), "a"), get(1, at(-1, 0), "a"), get(1, at(1, 1), ""), get(1, at(1, 1), long),
		scan(1, at(1, 1), "", "", 0), scan(1, at(1, 1), "", "", 91), scan(1, at(1, 1), "b", "b", 1), scan(1, at(1, 1), "b", "a", 1), scan(1, at(1, 1), long+"k", "", 1), scan(1, at(1, 1), "", long+"k", 1), scan(-1, at(1, 1), "", "", 1),
		put(0, 1, at(1, 1), "a", ""), put(1, 0, at(1, 1), "a", ""), put(1, api.MaxWall+1, at(1, 1), "a", ""), put(1, 1, at(0, 65536), "a", ""), put(1, 1, at(1, 1), "a", string(make([]byte, 10001))), {Kind: api.CmdPut, Txn: 1, Seq: 1, Key: []byte("a"), Del: true, Value: []byte("x")},
		refresh(0, 1, at(1, 1), at(2, 2), "", ""), refresh(1, 0, at(1, 1), at(2, 2), "", ""), refresh(1, 1, at(1, 1), at(2, -2), "", ""), refresh(1, 1, at(1, 1), at(2, 2), "b", "a"),
		begin(0, 1, at(1, 1)), begin(1, 0, at(1, 1)), begin(1, 1, at(-1, 1)), finish(0, true, at(1, 1)), finish(1, true, at(1, -1)), push(0, 1, at(1, 1)), push(1, 0, at(1, 1)), push(1, 1, at(1, -1)), forget(0),
		resolve(0, true, at(1, 1), "", ""), resolve(1, true, at(-1, 1), "", ""), resolve(1, false, at(0, 0), "b", "a"), collect(at(-1, 0)), split("", 1), split(long, 1), split("a", 0), split("a", 256),
	}
	extra := []func(c *api.Cmd){
		func(c *api.Cmd) { c.By++ }, func(c *api.Cmd) { c.Most++ }, func(c *api.Cmd) { c.Seq++ }, func(c *api.Cmd) { c.To.Wall++ }, func(c *api.Cmd) { c.Yes = true }, func(c *api.Cmd) { c.Del = true },
		func(c *api.Cmd) { c.Key = []byte("k") }, func(c *api.Cmd) { c.Value = []byte("v") }, func(c *api.Cmd) { c.Span.From = []byte("f") }, func(c *api.Cmd) { c.Span.To = []byte("t") }, func(c *api.Cmd) { c.Txn++ }, func(c *api.Cmd) { c.At.Wall++ },
	}
	uses := map[int][]int{api.CmdGet: {6, 10, 11}, api.CmdScan: {1, 8, 9, 10, 11}, api.CmdPut: {2, 5, 6, 7, 10, 11}, api.CmdRefresh: {2, 3, 8, 9, 10, 11}, api.CmdBegin: {2, 10, 11}, api.CmdEnd: {4, 10, 11}, api.CmdPush: {0, 10, 11}, api.CmdForget: {10}, api.CmdResolve: {4, 8, 9, 10, 11}, api.CmdCollect: {11}, api.CmdSplit: {0, 6}}
	for _, c := range []api.Cmd{get(1, at(1, 1), "a"), scan(1, at(1, 1), "a", "b", 5), put(1, 1, at(1, 1), "a", ""), refresh(1, 1, at(1, 1), at(2, 2), "a", "b"), begin(1, 1, at(1, 1)), finish(1, false, at(1, 1)), push(1, 1, at(1, 1)), forget(1), resolve(1, false, at(1, 1), "a", "b"), collect(at(1, 1)), split("a", 1)} {
		for i, f := range extra {
			x := c
			f(&x)
			if !slices.Contains(uses[c.Kind], i) {
				wrong = append(wrong, x)
			}
		}
	}
	for i, c := range wrong {
		if b, e := replica.Encode(c); b != nil || e != api.ErrReplicaForm {
			t.Errorf("%d (%v): %d", i, c, e)
		}
		m := machine(t, "", "")
		is(t, "Apply", apply(t, m, c), api.Res{Code: api.ErrReplicaForm})
	}
}

// P14.1
func TestAnswerForms(t *testing.T) {
	row := api.KV{Key: []byte("k"), Value: []byte("v")}
	right := []api.Res{
		{}, {Code: 999, State: 3, By: api.MaxWall, At: end, Got: api.Got{By: api.MaxWall}}, {Got: api.Got{Found: true, Value: make([]byte, 10000), At: at(1, 2), By: 5}},
		{Rows: []api.KV{row, {Key: []byte("l")}}}, {Rows: slices.Repeat([]api.KV{{Key: make([]byte, 110), Value: make([]byte, 10000)}}, 90)},
	}
	for i, r := range right {
		b, e := replica.Answer(r)
		x, e2 := replica.Read(b)
		if e != api.OK || e2 != api.OK || fmt.Sprint(x) != fmt.Sprint(r) || len(b) > api.MaxBody {
			t.Errorf("%d: %d %d", i, e, e2)
		}
		for k := range min(len(b), 100) {
			if _, e := replica.Read(b[:k]); e != api.ErrReplicaForm {
				t.Errorf("%d: %d bytes: %d", i, k, e)
			}
		}
		if _, e := replica.Read(append(b, 0)); e != api.ErrReplicaForm {
			t.Errorf("%d: a byte more", i)
		}
	}
	for i, r := range []api.Res{{Code: -1}, {Code: 1000}, {State: -1}, {State: 4}, {By: -1}, {By: api.MaxWall + 1}, {Got: api.Got{By: -1}}, {Got: api.Got{By: api.MaxWall + 1}}, {At: at(-1, 0)}, {Got: api.Got{At: at(0, -1)}}, {Got: api.Got{Value: make([]byte, 10001)}}, {Rows: slices.Repeat([]api.KV{row}, 91)}, {Rows: []api.KV{{}}}, {Rows: []api.KV{{Key: make([]byte, 111)}}}, {Rows: []api.KV{{Key: []byte("k"), Value: make([]byte, 10001)}}}} {
		if b, e := replica.Answer(r); b != nil || e != api.ErrReplicaForm {
			t.Errorf("%d: %d", i, e)
		}
	}
	r := rand.New(rand.NewSource(141))
	b, _ := replica.Answer(right[3])
	c, _ := replica.Encode(commands()[7])
	for range 5000 {
		x, y := slices.Clone(b), slices.Clone(c)
		x[r.Intn(len(x))] = byte(r.Intn(256))
		y[r.Intn(len(y))] = byte(r.Intn(256))
		if res, e := replica.Read(x); e == api.OK {
			again, _ := replica.Answer(res)
			is(t, "Answer", again, x)
		}
		if cmd, e := replica.Decode(y); e == api.OK {
			again, _ := replica.Encode(cmd)
			is(t, "Encode", again, y)
		}
	}
}

// P14.2
func TestNew(t *testing.T) {
	long := strings.Repeat("k", 112)
	for _, p := range []api.Span{span(long, ""), span("", long), span("b", "b"), span("b", "a")} {
		if m, e := replica.New(p); m != nil || e != api.ErrArg {
			t.Errorf("New(%q): %d", p, e)
		}
	}
	p := span(long[1:], "l")
	m, e := replica.New(p)
	is(t, "New", e, api.OK)
	p.From[0] = 'z'
	m.Span().To[0] = 'z'
	is(t, "Span", m.Span(), span(long[1:], "l"))
	is(t, "empty", []int{len(m.Intents()), m.Records()}, []int{0, 0})
	state, s := m.Record(1)
	is(t, "Record", []any{state, s}, []any{0, at(0, 0)})
}

// P14.3: what is not in the range.
func TestKeys(t *testing.T) {
	m := machine(t, "b", "d")
	open := machine(t, "b", "")
	for _, c := range []api.Cmd{get(1, at(1, 1), "a"), get(1, at(1, 1), "d"), put(1, 1, at(1, 1), "a\xff", ""), put(1, 1, at(1, 1), "d", ""), scan(1, at(1, 1), "a", "c", 9), scan(1, at(1, 1), "b", "d\x00", 9), scan(1, at(1, 1), "b", "", 9), refresh(1, 1, at(2, 1), at(1, 1), "a", "c"), resolve(1, true, at(1, 1), "b", ""), resolve(1, true, at(1, 1), "", "c"), split("b", 2), split("a", 2), split("d", 2)} {
		is(t, "Apply", apply(t, m, c), api.Res{Code: api.ErrReplicaKey})
	}
	is(t, "Apply", apply(t, open, scan(1, at(1, 1), "a", "", 9)), api.Res{Code: api.ErrReplicaKey})
	for _, c := range []api.Cmd{get(1, at(1, 1), "b"), get(1, at(1, 1), "c\xff"), scan(1, at(1, 1), "b", "d", 9), scan(1, at(1, 1), "c", "c\x00", 9), refresh(9, 1, at(1, 1), at(1, 1), "b", "d"), resolve(1, true, at(1, 1), "b", "d")} {
		is(t, "Apply", apply(t, m, c), api.Res{})
		is(t, "Apply", apply(t, open, c), api.Res{})
	}
	is(t, "Apply", apply(t, open, scan(1, at(1, 1), "b", "", 9)), api.Res{})
}

// P14.3: a write comes behind what others have read.
func TestMarks(t *testing.T) {
	m := machine(t, "", "")
	is(t, "by another one", apply(t, m, put(1, 1, at(0, 0), "z", "")), stamped(at(0, 1)))
	apply(t, m, get(1, at(5, 0), "a"))
	is(t, "by itself", apply(t, m, put(1, 2, at(5, 0), "a", "")), stamped(at(5, 0)))
	is(t, "by itself, later", apply(t, m, put(1, 3, at(4, 0), "a", "")), stamped(at(5, 0)))
	apply(t, m, get(1, at(6, 0), "b"))
	apply(t, m, get(2, at(6, 0), "b"))
	is(t, "by several", apply(t, m, put(1, 4, at(6, 0), "b", "")), stamped(at(6, 1)))
	apply(t, m, get(1, at(7, 0), "c"))
	apply(t, m, get(2, at(6, 9), "c"))
	is(t, "an earlier read", apply(t, m, put(1, 5, at(7, 0), "c", "")), stamped(at(7, 0)))
	apply(t, m, get(0, at(8, 0), "d"))
	is(t, "by none", apply(t, m, put(1, 6, at(8, 0), "d", "")), stamped(at(8, 1)))
	is(t, "another key", apply(t, m, put(1, 7, at(3, 0), "e", "")), stamped(at(3, 0)))
	is(t, "Scan", apply(t, m, scan(1, at(9, 0), "x", "y", 1)), api.Res{})
	is(t, "the low mark, by itself", apply(t, m, put(1, 8, at(3, 0), "f", "")), stamped(at(9, 0)))
	is(t, "the low mark, by another", apply(t, m, put(2, 1, at(3, 0), "g", "")), stamped(at(9, 1)))
	is(t, "later than it", apply(t, m, put(2, 2, at(11, 0), "h", "")), stamped(at(11, 0)))
	apply(t, m, get(2, at(12, 0), "i"))
	apply(t, m, scan(3, at(12, 0), "x", "y", 1))
	is(t, "both marks", apply(t, m, put(2, 3, at(1, 0), "i", "")), stamped(at(12, 1)))
	is(t, "Refresh", apply(t, m, refresh(2, 4, at(12, 0), at(15, 0), "x", "y")), api.Res{})
	is(t, "behind a refresh", apply(t, m, put(3, 1, at(1, 0), "j", "")), stamped(at(15, 1)))
	apply(t, m, get(9, end, "k"))
	is(t, "at the end", apply(t, m, put(3, 2, at(1, 0), "k", "")), api.Res{Code: api.ErrClockEnd})
	apply(t, m, scan(9, end, "x", "y", 1))
	is(t, "at the end", apply(t, m, put(3, 2, at(1, 0), "l", "")), api.Res{Code: api.ErrClockEnd})
}

func TestManyMarks(t *testing.T) {
	m := machine(t, "", "")
	for i := range 32 {
		apply(t, m, get(1, at(10+i, 0), fmt.Sprintf("k%02d", i)))
	}
	is(t, "32 marks", apply(t, m, put(2, 1, at(3, 0), "q", "")), stamped(at(3, 0)))
	apply(t, m, get(1, at(50, 0), "k31"))
	is(t, "32 marks", apply(t, m, put(2, 2, at(3, 0), "q", "")), stamped(at(3, 0)))
	apply(t, m, get(1, at(5, 0), "k32"))
	is(t, "33 marks", apply(t, m, put(2, 3, at(3, 0), "q", "")), stamped(at(50, 1)))
	is(t, "by itself", apply(t, m, put(1, 1, at(3, 0), "r", "")), stamped(at(50, 0)))
	m = machine(t, "", "")
	for i := range 33 {
		apply(t, m, get(1+i%2, at(10, 0), fmt.Sprintf("k%02d", i)))
	}
	is(t, "by several", apply(t, m, put(1, 1, at(3, 0), "r", "")), stamped(at(10, 1)))
}

// P14.3: Get, Scan, Put, Refresh say what the space says.
func TestReadsAndWrites(t *testing.T) {
	m := machine(t, "", "")
	apply(t, m, put(1, 1, at(5, 0), "a", "x"))
	is(t, "Intents", m.Intents(), []api.Intent{{Key: []byte("a"), Txn: 1, At: at(5, 0), Value: []byte("x")}})
	is(t, "Get", apply(t, m, get(1, at(2, 0), "a")), api.Res{Got: api.Got{Found: true, Value: []byte("x"), At: at(5, 0)}})
	is(t, "Scan", apply(t, m, scan(0, at(5, 0), "", "", 9)), api.Res{Code: api.ErrMvccIntent, By: 1})
	is(t, "Put", apply(t, m, put(2, 1, at(5, 0), "a", "y")), api.Res{Code: api.ErrMvccIntent, By: 1})
	is(t, "Resolve", apply(t, m, resolve(1, true, at(4, 0), "", "")), api.Res{Code: api.ErrArg})
	is(t, "Resolve", apply(t, m, resolve(2, true, at(6, 0), "", "")), api.Res{})
	is(t, "Resolve", apply(t, m, resolve(1, true, at(6, 0), "b", "")), api.Res{})
	is(t, "Resolve", apply(t, m, resolve(1, true, at(6, 0), "a", "b")), api.Res{})
	is(t, "Scan", apply(t, m, scan(2, at(6, 0), "", "", 9)), api.Res{Rows: []api.KV{{Key: []byte("a"), Value: []byte("x")}}})
	is(t, "Refresh", apply(t, m, refresh(2, 5, at(5, 9), at(5, 8), "", "")), api.Res{Code: api.ErrArg})
	is(t, "Refresh", apply(t, m, refresh(2, 5, at(5, 9), at(6, 0), "", "")), api.Res{Code: api.ErrReplicaAgain})
	is(t, "Refresh", apply(t, m, refresh(2, 5, at(5, 9), at(6, 0), "b", "")), api.Res{})
	is(t, "Refresh again", apply(t, m, refresh(2, 5, at(5, 9), at(6, 0), "", "")), api.Res{})
	is(t, "Refresh, late", apply(t, m, refresh(2, 4, at(9, 9), at(6, 0), "", "")), api.Res{Code: api.ErrReplicaAgain})
	is(t, "Collect", apply(t, m, collect(at(7, 0))), api.Res{})
	is(t, "Get", apply(t, m, get(2, at(6, 0), "a")), api.Res{Code: api.ErrMvccOld})
	is(t, "Scan", apply(t, m, scan(2, at(6, 0), "", "", 9)), api.Res{Code: api.ErrMvccOld})
	is(t, "Refresh", apply(t, m, refresh(2, 6, at(6, 0), at(7, 0), "", "")), api.Res{Code: api.ErrMvccOld})
	for i, k := range []string{"p", "q", "r"} {
		apply(t, m, put(4, 1+i, at(9, 0), k, k))
	}
	is(t, "Scan", apply(t, m, scan(4, at(9, 0), "p", "", 2)), api.Res{Rows: []api.KV{{Key: []byte("p"), Value: []byte("p")}, {Key: []byte("q"), Value: []byte("q")}}})
	is(t, "Resolve", apply(t, m, resolve(4, false, at(0, 0), "", "r")), api.Res{})
	is(t, "Intents", len(m.Intents()), 1)
}

// P14.3: resolving one key.
func TestResolveOne(t *testing.T) {
	long := strings.Repeat("k", 110)
	m := machine(t, "", "")
	for i, k := range []string{"a", "a\x00", "b", long} {
		apply(t, m, put(1, 1+i, at(5, 0), k, k))
	}
	for _, c := range []api.Cmd{resolve(1, true, at(6, 0), "", "\x00"), resolve(1, true, at(6, 0), "c", "c\x00"), resolve(2, true, at(6, 0), "a", "a\x00"), resolve(1, true, at(6, 0), long+"k", long+"l"), resolve(1, false, at(0, 0), "aa", "aa\x00")} {
		is(t, "Resolve", apply(t, m, c), api.Res{})
		is(t, "Intents", len(m.Intents()), 4)
	}
	is(t, "Resolve", apply(t, m, resolve(1, true, at(4, 0), "a", "a\x00")), api.Res{Code: api.ErrArg})
	is(t, "Resolve", apply(t, m, resolve(1, true, at(6, 0), "a", "a\x00")), api.Res{})
	is(t, "Resolve", apply(t, m, resolve(1, false, at(0, 0), long, long+"\x00")), api.Res{})
	is(t, "Intents", len(m.Intents()), 2)
	is(t, "Scan", apply(t, m, scan(1, at(9, 0), "", "", 9)), api.Res{Rows: []api.KV{{Key: []byte("a"), Value: []byte("a")}, {Key: []byte("a\x00"), Value: []byte("a\x00")}, {Key: []byte("b"), Value: []byte("b")}}})
}

// P14.3: a deletion.
func TestDel(t *testing.T) {
	m := machine(t, "", "")
	apply(t, m, put(1, 1, at(5, 0), "a", "x"))
	apply(t, m, resolve(1, true, at(5, 0), "", ""))
	is(t, "Put", apply(t, m, api.Cmd{Kind: api.CmdPut, Txn: 2, Seq: 1, At: at(6, 0), Key: []byte("a"), Del: true}), stamped(at(6, 0)))
	is(t, "Intents", m.Intents(), []api.Intent{{Key: []byte("a"), Txn: 2, At: at(6, 0), Del: true}})
	is(t, "Get", apply(t, m, get(2, at(9, 0), "a")), api.Res{})
	is(t, "Get", apply(t, m, get(1, at(5, 0), "a")), api.Res{Got: api.Got{Found: true, Value: []byte("x"), At: at(5, 0)}})
}

// P14.3: what was seen.
func TestSeen(t *testing.T) {
	m := machine(t, "", "")
	is(t, "Put", apply(t, m, put(5, 2, at(5, 0), "a", "x")), stamped(at(5, 0)))
	is(t, "an earlier one", apply(t, m, put(5, 1, at(5, 0), "a", "y")), api.Res{Code: api.ErrReplicaAgain})
	is(t, "the same one", apply(t, m, put(5, 2, at(9, 0), "b", "y")), stamped(at(5, 0)))
	is(t, "Begin", apply(t, m, begin(5, 2, at(5, 0))), stamped(at(5, 0)))
	is(t, "Begin", apply(t, m, begin(5, 1, at(5, 0))), api.Res{Code: api.ErrReplicaAgain})
	is(t, "Records", m.Records(), 0)
	is(t, "Begin", apply(t, m, begin(5, 3, at(5, 0))), api.Res{State: api.TxnPending})
	is(t, "Begin again", apply(t, m, begin(5, 3, at(5, 0))), api.Res{})
	is(t, "Refresh", apply(t, m, refresh(5, 3, at(9, 0), at(5, 0), "", "")), api.Res{})
	is(t, "a failure is not recorded", apply(t, m, put(6, 1, at(5, 0), "a", "x")), api.Res{Code: api.ErrMvccIntent, By: 5})
	apply(t, m, resolve(5, false, at(0, 0), "", ""))
	is(t, "then it is done", apply(t, m, put(6, 1, at(5, 0), "a", "x")), stamped(at(5, 0)))
	for i := range 62 {
		apply(t, m, put(100+i, 1, at(5, 0), fmt.Sprint("k", i), ""))
	}
	is(t, "64 are seen", apply(t, m, put(5, 3, at(1, 0), "z", "")), api.Res{})
	is(t, "the 65th", apply(t, m, put(200, 1, at(5, 0), "zz", "")), stamped(at(5, 0)))
	is(t, "the smallest is forgotten", apply(t, m, put(5, 9, at(1, 0), "z", "")), api.Res{Code: api.ErrReplicaAgain})
	is(t, "and all that are smaller", apply(t, m, begin(4, 1, at(1, 0))), api.Res{Code: api.ErrReplicaAgain})
	is(t, "the next one is not", apply(t, m, put(6, 1, at(1, 0), "z", "")), stamped(at(5, 0)))
	is(t, "a new one that is the smallest", apply(t, m, begin(5, 9, at(1, 0))), api.Res{Code: api.ErrReplicaAgain})
	apply(t, m, put(6, 2, at(5, 0), "y", ""))
	is(t, "still", apply(t, m, put(6, 1, at(1, 0), "z", "")), api.Res{Code: api.ErrReplicaAgain})
}

// P14.3: records.
func TestRecords(t *testing.T) {
	m := machine(t, "", "")
	rec := func(txn, state int, s api.Stamp) {
		t.Helper()
		a, b := m.Record(txn)
		is(t, "Record", []any{a, b}, []any{state, s})
	}
	is(t, "Begin", apply(t, m, begin(1, 1, at(5, 0))), api.Res{State: api.TxnPending})
	rec(1, api.TxnPending, at(5, 0))
	is(t, "Begin", apply(t, m, begin(1, 2, at(6, 0))), api.Res{State: api.TxnPending})
	rec(1, api.TxnPending, at(5, 0))
	is(t, "Forget", apply(t, m, forget(1)), api.Res{Code: api.ErrReplicaTxn})
	is(t, "Push by a younger one", apply(t, m, push(1, 2, at(6, 0))), api.Res{State: api.TxnPending, At: at(5, 0)})
	is(t, "Push by one of the same age", apply(t, m, push(1, 2, at(5, 0))), api.Res{State: api.TxnPending, At: at(5, 0)})
	is(t, "End", apply(t, m, finish(1, true, at(7, 0))), api.Res{State: api.TxnCommitted, At: at(7, 0)})
	rec(1, api.TxnCommitted, at(7, 0))
	is(t, "End again", apply(t, m, finish(1, true, at(8, 0))), api.Res{State: api.TxnCommitted, At: at(7, 0)})
	is(t, "abort", apply(t, m, finish(1, false, at(8, 0))), api.Res{Code: api.ErrReplicaTxn, State: api.TxnCommitted, At: at(7, 0)})
	is(t, "Push", apply(t, m, push(1, 2, at(0, 0))), api.Res{State: api.TxnCommitted, At: at(7, 0)})
	is(t, "Begin", apply(t, m, begin(1, 3, at(6, 0))), api.Res{Code: api.ErrReplicaTxn, State: api.TxnCommitted})
	is(t, "Forget", apply(t, m, forget(1)), api.Res{})
	is(t, "Forget again", apply(t, m, forget(1)), api.Res{})
	rec(1, 0, at(0, 0))
	is(t, "Begin, seen", apply(t, m, begin(1, 2, at(6, 0))), api.Res{})
	is(t, "End of none", apply(t, m, finish(2, true, at(3, 0))), api.Res{Code: api.ErrReplicaTxn, State: api.TxnAborted, At: at(3, 0)})
	is(t, "End of none", apply(t, m, finish(3, false, at(3, 0))), api.Res{State: api.TxnAborted, At: at(3, 0)})
	is(t, "Push of none", apply(t, m, push(4, 9, at(3, 0))), api.Res{State: api.TxnAborted, At: at(3, 0)})
	is(t, "Begin", apply(t, m, begin(4, 1, at(6, 0))), api.Res{Code: api.ErrReplicaTxn, State: api.TxnAborted})
	apply(t, m, begin(6, 1, at(6, 0)))
	is(t, "Push by a smaller number", apply(t, m, push(6, 5, at(6, 0))), api.Res{State: api.TxnAborted, At: at(6, 0)})
	apply(t, m, begin(7, 1, at(6, 0)))
	is(t, "Push by an older one", apply(t, m, push(7, 9, at(5, 65535))), api.Res{State: api.TxnAborted, At: at(6, 0)})
	is(t, "End", apply(t, m, finish(7, true, at(9, 0))), api.Res{Code: api.ErrReplicaTxn, State: api.TxnAborted, At: at(6, 0)})
	for i := range 64 - m.Records() {
		is(t, "Begin", apply(t, m, begin(100+i, 1, at(6, 0))), api.Res{State: api.TxnPending})
	}
	is(t, "Records", m.Records(), 64)
	is(t, "Begin", apply(t, m, begin(300, 1, at(6, 0))), api.Res{Code: api.ErrReplicaFull})
	is(t, "End", apply(t, m, finish(300, false, at(6, 0))), api.Res{Code: api.ErrReplicaFull})
	is(t, "Push", apply(t, m, push(300, 1, at(6, 0))), api.Res{Code: api.ErrReplicaFull})
	is(t, "Begin", apply(t, m, begin(100, 2, at(6, 0))), api.Res{State: api.TxnPending})
	apply(t, m, forget(4))
	is(t, "Begin", apply(t, m, begin(300, 1, at(6, 0))), api.Res{State: api.TxnPending})
}

// P14.3: splits.
func TestSplit(t *testing.T) {
	m := machine(t, "", "")
	apply(t, m, put(1, 1, at(5, 0), "a", "x"))
	apply(t, m, put(1, 2, at(5, 0), "m", "y"))
	apply(t, m, put(2, 7, at(5, 0), "z", "z"))
	apply(t, m, begin(2, 8, at(5, 0)))
	apply(t, m, collect(at(2, 0)))
	apply(t, m, get(3, at(6, 0), "b"))
	apply(t, m, get(3, at(7, 0), "n"))
	r, other := m.Apply(split("m", 9))
	is(t, "Split", r, api.Res{})
	is(t, "Intents", []int{len(m.Intents()), len(other.Intents())}, []int{1, 2})
	is(t, "Records", []int{m.Records(), other.Records()}, []int{1, 0})
	is(t, "the floor", apply(t, other, get(3, at(1, 0), "n")), api.Res{Code: api.ErrMvccOld})
	is(t, "a mark", apply(t, other, put(4, 1, at(1, 0), "n", "")), stamped(at(7, 1)))
	is(t, "no mark", apply(t, other, put(4, 2, at(3, 0), "o", "")), stamped(at(3, 0)))
	is(t, "a mark", apply(t, m, put(4, 1, at(1, 0), "b", "")), stamped(at(6, 1)))
	is(t, "seen", apply(t, other, put(2, 8, at(1, 0), "q", "")), api.Res{})
	is(t, "seen, left", apply(t, m, begin(2, 8, at(1, 0))), api.Res{})
	is(t, "Span", other.Span(), span("m", ""))
	_, third := other.Apply(split("x", 9))
	is(t, "Span", []api.Span{other.Span(), third.Span()}, []api.Span{span("m", "x"), span("x", "")})
	low := machine(t, "", "")
	apply(t, low, scan(1, at(9, 0), "", "", 1))
	_, right := low.Apply(split("m", 2))
	is(t, "the low mark", apply(t, right, put(2, 1, at(1, 0), "n", "")), stamped(at(9, 1)))
	is(t, "the low mark", apply(t, low, put(2, 1, at(1, 0), "a", "")), stamped(at(9, 1)))
	for i := range 65 {
		apply(t, low, put(10+i, 1, at(9, 9), "b", ""))
		apply(t, low, resolve(10+i, false, at(0, 0), "", "m"))
	}
	_, right = low.Apply(split("c", 2))
	is(t, "the oldest one", apply(t, right, put(3, 1, at(1, 0), "d", "")), api.Res{Code: api.ErrReplicaAgain})
}

func random(r *rand.Rand) api.Cmd {
	key := fmt.Sprintf("k%02d", r.Intn(40))
	txn := 1 + r.Intn(90)
	s := at(r.Intn(30), r.Intn(2))
	from, to := fmt.Sprintf("k%02d", r.Intn(20)), fmt.Sprintf("k%02d", 21+r.Intn(20))
	switch r.Intn(16) {
	case 0, 1, 2:
		return get(r.Intn(90), s, key)
	case 3:
		return scan(txn, s, from, to, 1+r.Intn(9))
	case 4, 5, 6:
		return put(txn, 1+r.Intn(5), s, key, fmt.Sprint(r.Intn(99)))
	case 7:
		return api.Cmd{Kind: api.CmdPut, Txn: txn, Seq: 1 + r.Intn(5), At: s, Key: []byte(key), Del: true}
	case 8:
		return refresh(txn, 1+r.Intn(5), s, at(s.Wall+r.Intn(3), 5), from, to)
	case 9:
		return begin(txn, 1+r.Intn(5), s)
	case 10:
		return finish(txn, r.Intn(2) == 0, s)
	case 11:
		return push(txn, 1+r.Intn(20), s)
	case 12:
		return forget(txn)
	case 13, 14:
		return resolve(txn, r.Intn(2) == 0, at(s.Wall+20, 0), "", "k99")
	}
	return collect(at(r.Intn(10), 0))
}

func takeInto(t *testing.T, kept map[string]string, ops []api.Op) {
	t.Helper()
	for i, op := range ops {
		if len(op.Key) > 250 || len(op.Value) > 65536 || i > 0 && bytes.Compare(ops[i-1].Key, op.Key) >= 0 {
			t.Fatalf("Take: %q", op.Key)
		}
		if op.Del {
			delete(kept, string(op.Key))
		} else {
			kept[string(op.Key)] = string(op.Value)
		}
	}
}

func load(t *testing.T, kept map[string]string) *replica.Machine {
	t.Helper()
	var l []api.KV
	for _, k := range slices.Sorted(maps.Keys(kept)) {
		l = append(l, api.KV{Key: []byte(k), Value: []byte(kept[k])})
	}
	m, e := replica.Load(l)
	if e != api.OK {
		t.Fatalf("Load: %d", e)
	}
	return m
}

func state(t *testing.T, m *replica.Machine) string {
	t.Helper()
	b, e := m.State()
	if e != api.OK {
		t.Fatalf("State: %d", e)
	}
	return string(b)
}

// P14.4, P14.5
func TestEqualMachines(t *testing.T) {
	r := rand.New(rand.NewSource(144))
	for range 30 {
		a, b := machine(t, "", "k99"), machine(t, "", "k99")
		kept := map[string]string{}
		for range 200 {
			c := random(r)
			x, y := apply(t, a, c), apply(t, b, c)
			if fmt.Sprint(x) != fmt.Sprint(y) {
				t.Fatalf("%v: %v, %v", c, x, y)
			}
			if state(t, a) != state(t, b) {
				t.Fatal("the states differ")
			}
			if r.Intn(10) == 0 {
				takeInto(t, kept, b.Take())
				if len(b.Take()) != 0 {
					t.Fatal("Take again")
				}
				b = load(t, kept)
			}
			if r.Intn(20) == 0 {
				var e api.Errno
				if b, e = replica.Restore([]byte(state(t, a))); e != api.OK {
					t.Fatalf("Restore: %d", e)
				}
				kept = map[string]string{}
			}
			if r.Intn(60) == 0 {
				_, other := b.Apply(split("k20", 2))
				a.Apply(split("k20", 2))
				if other == nil {
					continue
				}
				right := map[string]string{}
				takeInto(t, right, other.Take())
				if state(t, load(t, right)) != state(t, other) {
					t.Fatal("the right part")
				}
			}
		}
	}
}

// P14.4: a state that is too long, and bytes that are none.
func TestStates(t *testing.T) {
	m := machine(t, "", "")
	for i := range 7 {
		apply(t, m, put(1, 1+i, at(5, 0), fmt.Sprint("k", i), string(make([]byte, 9000))))
	}
	if b, e := m.State(); b != nil || e != api.ErrReplicaFull {
		t.Errorf("State: %d", e)
	}
	apply(t, m, resolve(1, false, at(0, 0), "", "k2"))
	s := state(t, m)
	r := rand.New(rand.NewSource(7))
	for range 300 {
		b := []byte(s)
		b[r.Intn(300)] = byte(r.Intn(256))
		if r.Intn(3) == 0 {
			b = b[:r.Intn(len(b))]
		}
		x, e := replica.Restore(b)
		if (x == nil) != (e == api.ErrReplicaForm) {
			t.Fatalf("Restore: %d", e)
		}
		if x != nil {
			x.Apply(get(1, at(9, 0), "k5"))
			x.Apply(split("k3", 2))
			x.Take()
		}
	}
	for _, l := range [][]api.KV{nil, {{}}, {{Key: []byte("x")}}, {{Key: []byte("s"), Value: []byte("\x00\x00")}}} {
		if x, e := replica.Load(l); x != nil || e != api.ErrReplicaForm {
			t.Errorf("Load: %d", e)
		}
	}
	if _, e := replica.Restore(nil); e != api.ErrReplicaForm {
		t.Errorf("Restore: %d", e)
	}
}

// P14.5: no write at or before what another one has read.
func TestNoWriteBehindReads(t *testing.T) {
	r := rand.New(rand.NewSource(145))
	for range 30 {
		m := machine(t, "", "")
		read := map[string]map[int]api.Stamp{}
		for range 300 {
			c := random(r)
			res := apply(t, m, c)
			key := string(c.Key)
			switch {
			case c.Kind == api.CmdGet && res.Code == api.OK:
				if read[key] == nil {
					read[key] = map[int]api.Stamp{}
				}
				if old := read[key][c.Txn]; c.At.Wall > old.Wall || c.At.Wall == old.Wall && c.At.Logic > old.Logic {
					read[key][c.Txn] = c.At
				}
			case c.Kind == api.CmdPut && res.Code == api.OK:
				again := apply(t, m, c)
				is(t, "again", again, res)
				for txn, s := range read[key] {
					if txn != c.Txn && (res.At.Wall < s.Wall || res.At.Wall == s.Wall && res.At.Logic <= s.Logic) && wrote(m, c, res) {
						t.Fatalf("%q is written at %v, and %d has read it at %v", key, res.At, txn, s)
					}
				}
			}
		}
	}
}

// wrote tells whether an answer is that of the command itself, not of an earlier one with its Seq.
func wrote(m *replica.Machine, c api.Cmd, r api.Res) bool {
	for _, i := range m.Intents() {
		if i.Txn == c.Txn && bytes.Equal(i.Key, c.Key) && i.At == r.At && bytes.Equal(i.Value, c.Value) {
			return true
		}
	}
	return false
}
