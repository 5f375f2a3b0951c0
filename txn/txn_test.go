package txn_test

import (
	"fmt"
	"reflect"
	"slices"
	"strings"
	"testing"

	"cormorant/api"
	"cormorant/txn"
)

func at(wall, logic int) api.Stamp { return api.Stamp{Wall: wall, Logic: logic} }

func span(from, to string) api.Span { return api.Span{From: []byte(from), To: []byte(to)} }

func put(key, value string) api.Op { return api.Op{Key: []byte(key), Value: []byte(value)} }

var one = []api.Range{{Id: 1, Gen: 1}}

var two = []api.Range{{Id: 1, Gen: 2, Span: span("", "m")}, {Id: 2, Gen: 2, Span: span("m", "")}}

func is(t *testing.T, what string, got, want any) {
	t.Helper()
	if !reflect.DeepEqual(got, want) {
		t.Errorf("%s: %v, want %v", what, got, want)
	}
}

func start(t *testing.T, id int, s api.Stamp, patience int) *txn.Txn {
	t.Helper()
	x, e := txn.New(id, s, patience)
	if e != api.OK {
		t.Fatalf("New: %d", e)
	}
	return x
}

// show is a command in short.
func show(c api.Cmd) string {
	names := []string{"", "get", "scan", "put", "refresh", "begin", "end", "push", "forget", "resolve", "collect", "split"}
	s := fmt.Sprintf("%s %d", names[c.Kind], c.Txn)
	if c.Seq != 0 {
		s += fmt.Sprint(" seq ", c.Seq)
	}
	if c.By != 0 {
		s += fmt.Sprint(" by ", c.By)
	}
	if c.Yes {
		s += " yes"
	}
	if c.Kind != api.CmdForget {
		s += fmt.Sprintf(" at %d.%d", c.At.Wall, c.At.Logic)
	}
	if c.To != at(0, 0) {
		s += fmt.Sprintf(" to %d.%d", c.To.Wall, c.To.Logic)
	}
	if c.Kind == api.CmdScan || c.Kind == api.CmdRefresh || c.Kind == api.CmdResolve {
		s += fmt.Sprintf(" [%q,%q)", c.Span.From, c.Span.To)
	}
	if c.Key != nil {
		s += fmt.Sprintf(" %s", c.Key)
	}
	if c.Kind == api.CmdPut {
		s += fmt.Sprintf("=%s", c.Value)
	}
	if c.Del {
		s += " del"
	}
	if c.Most != 0 {
		s += fmt.Sprint(" most ", c.Most)
	}
	return s
}

// ask checks the next request.
func ask(t *testing.T, x *txn.Txn, l []api.Range, group int, want string) txn.Request {
	t.Helper()
	q, ok := x.Next(l)
	if got := show(q.Cmd); !ok || got != want || q.Range != group {
		t.Errorf("Next: %s to %d (%v), want %s to %d", got, q.Range, ok, want, group)
	}
	return q
}

// do checks the next request, and answers it.
func do(t *testing.T, x *txn.Txn, l []api.Range, group int, want string, r api.Res) {
	t.Helper()
	q := ask(t, x, l, group, want)
	if !x.Answer(q, r) {
		t.Errorf("Answer to %s", want)
	}
	if x.Answer(q, r) {
		t.Errorf("a second answer to %s", want)
	}
}

func state(t *testing.T, x *txn.Txn, want int) {
	t.Helper()
	is(t, "State", x.State(), want)
	if want == txn.Idle || want == txn.Over {
		if q, ok := x.Next(one); ok || q.Range != 0 {
			t.Error("Next")
		}
	}
}

func code(t *testing.T, e, want api.Errno) {
	t.Helper()
	is(t, "code", e, want)
}

// The first example.
func TestWriteAndCommit(t *testing.T) {
	x := start(t, 1, at(5, 0), 3)
	state(t, x, txn.Idle)
	code(t, x.Write([]api.Op{put("a", "1")}), api.OK)
	state(t, x, txn.Busy)
	do(t, x, one, 1, "begin 1 seq 1 at 5.0", api.Res{State: api.TxnPending})
	do(t, x, one, 1, "put 1 seq 2 at 5.0 a=1", api.Res{At: at(7, 1)})
	state(t, x, txn.Idle)
	is(t, "End", []api.Stamp{x.At(), x.End()}, []api.Stamp{at(5, 0), at(7, 1)})
	code(t, x.Commit(), api.OK)
	do(t, x, one, 1, "end 1 yes at 7.1", api.Res{State: api.TxnCommitted, At: at(7, 1)})
	state(t, x, txn.Committed)
	do(t, x, one, 1, `resolve 1 yes at 7.1 ["a","a\x00")`, api.Res{})
	do(t, x, one, 1, "forget 1", api.Res{})
	state(t, x, txn.Over)
}

// The second example, and P16.4 on who blocks.
func TestBlocked(t *testing.T) {
	x := start(t, 1, at(5, 0), 3)
	code(t, x.Read(span("", "")), api.OK)
	do(t, x, one, 1, `scan 1 at 5.0 ["","") most 90`, api.Res{Code: api.ErrMvccIntent, By: 2})
	is(t, "Blocked", x.Blocked(), 2)
	for range 3 {
		do(t, x, one, 1, "push 2 by 1 at 5.0", api.Res{State: api.TxnPending, At: at(1, 1)})
	}
	do(t, x, one, 1, "push 2 by 1 at 0.0", api.Res{State: api.TxnPending})
	do(t, x, one, 1, "push 2 by 1 at 0.0", api.Res{State: api.TxnAborted, At: at(1, 1)})
	is(t, "Blocked", x.Blocked(), 2)
	do(t, x, two, 1, `resolve 2 at 0.0 ["","m")`, api.Res{})
	is(t, "Blocked", x.Blocked(), 0)
	do(t, x, one, 1, `scan 1 at 5.0 ["","") most 90`, api.Res{Code: api.ErrMvccIntent, By: 3})
	do(t, x, one, 1, "push 3 by 1 at 5.0", api.Res{State: api.TxnCommitted, At: at(6, 0)})
	do(t, x, one, 1, `resolve 3 yes at 6.0 ["","")`, api.Res{})
	do(t, x, one, 1, `scan 1 at 5.0 ["","") most 90`, api.Res{})
	state(t, x, txn.Idle)
	code(t, x.Write([]api.Op{put("q", "1")}), api.OK)
	do(t, x, two, 1, "begin 1 seq 1 at 5.0", api.Res{})
	do(t, x, two, 2, "put 1 seq 2 at 5.0 q=1", api.Res{Code: api.ErrMvccIntent, By: 4})
	do(t, x, two, 1, "push 4 by 1 at 5.0", api.Res{State: api.TxnCommitted, At: at(9, 9)})
	do(t, x, two, 2, `resolve 4 yes at 9.9 ["q","q\x00")`, api.Res{})
	do(t, x, two, 2, "put 1 seq 2 at 5.0 q=1", api.Res{Code: api.ErrMvccIntent, By: 5})
	code(t, x.Abort(), api.OK)
	is(t, "Blocked", x.Blocked(), 0)
	state(t, x, txn.Aborted)
	do(t, x, two, 1, "end 1 at 5.0", api.Res{Code: api.ErrReplicaFull})
	do(t, x, two, 1, "forget 1", api.Res{Code: api.ErrReplicaTxn})
	state(t, x, txn.Over)
}

// P16.1, P16.2
func TestArguments(t *testing.T) {
	for _, c := range []struct {
		id       int
		s        api.Stamp
		patience int
	}{{0, at(1, 1), 1}, {api.MaxWall + 1, at(1, 1), 1}, {1, at(-1, 0), 1}, {1, at(1, 1), 0}} {
		if x, e := txn.New(c.id, c.s, c.patience); x != nil || e != api.ErrArg {
			t.Errorf("New(%v): %d", c, e)
		}
	}
	x := start(t, api.MaxWall, at(1, 1), 1)
	long := strings.Repeat("k", 112)
	for _, p := range []api.Span{span(long, ""), span("", long), span("b", "b"), span("b", "a")} {
		code(t, x.Read(p), api.ErrArg)
	}
	for i, ops := range [][]api.Op{nil, slices.Repeat([]api.Op{put("a", "")}, 201), {put("", "")}, {put(long[1:], "")}, {put("a", string(make([]byte, 10001)))}, {{Del: true, Key: []byte("a"), Value: []byte("x")}}} {
		if e := x.Write(ops); e != api.ErrArg {
			t.Errorf("Write %d: %d", i, e)
		}
	}
	state(t, x, txn.Idle)
	code(t, x.Read(span(long[1:], "l")), api.OK)
	code(t, x.Read(span("b", "a")), api.ErrTxnState)
	code(t, x.Write(nil), api.ErrTxnState)
	code(t, x.Commit(), api.ErrTxnState)
	code(t, x.Abort(), api.OK)
	state(t, x, txn.Over)
	for _, e := range []api.Errno{x.Read(span("", "")), x.Write(nil), x.Commit(), x.Abort()} {
		code(t, e, api.ErrTxnState)
	}
	y := start(t, 1, at(1, 1), 1)
	code(t, y.Commit(), api.OK)
	state(t, y, txn.Over)
	z := start(t, 1, at(1, 1), 1)
	ops := []api.Op{put(long[2:], string(make([]byte, 10000)))}
	code(t, z.Write(slices.Repeat(ops, 200)), api.OK)
	do(t, z, one, 1, "begin 1 seq 1 at 1.1", api.Res{})
	ops[0].Key[0] = 'z'
	q, _ := z.Next(one)
	is(t, "Next", string(q.Cmd.Key), long[2:])
	q.Cmd.Key[0] = 'y'
	q, _ = z.Next(one)
	is(t, "Next", string(q.Cmd.Key), long[2:])
}

// P16.2: a commit that has read refreshes; an end cannot be taken back.
func TestRefresh(t *testing.T) {
	x := start(t, 7, at(5, 0), 3)
	x.Read(span("a", "c"))
	do(t, x, two, 1, `scan 7 at 5.0 ["a","c") most 90`, api.Res{})
	x.Read(span("k", "q"))
	do(t, x, two, 1, `scan 7 at 5.0 ["k","m") most 90`, api.Res{Rows: []api.KV{{Key: []byte("l"), Value: []byte("1")}}})
	is(t, "Rows", len(x.Rows()), 0)
	do(t, x, two, 2, `scan 7 at 5.0 ["m","q") most 90`, api.Res{Rows: []api.KV{{Key: []byte("n"), Value: []byte("2")}}})
	is(t, "Rows", x.Rows(), []api.KV{{Key: []byte("l"), Value: []byte("1")}, {Key: []byte("n"), Value: []byte("2")}})
	x.Rows()[0].Key[0] = 'z'
	is(t, "Rows", string(x.Rows()[0].Key), "l")
	x.Write([]api.Op{put("b", "1"), {Del: true, Key: []byte("n")}, put("b", "2")})
	do(t, x, two, 1, "begin 7 seq 1 at 5.0", api.Res{})
	do(t, x, two, 1, "put 7 seq 2 at 5.0 b=1", api.Res{At: at(6, 0)})
	do(t, x, two, 2, "put 7 seq 3 at 6.0 n= del", api.Res{At: at(5, 9)})
	do(t, x, two, 1, "put 7 seq 4 at 6.0 b=2", api.Res{At: at(6, 0)})
	is(t, "Rows", len(x.Rows()), 2)
	x.Commit()
	do(t, x, two, 1, `refresh 7 seq 5 at 5.0 to 6.0 ["a","c")`, api.Res{})
	do(t, x, two, 1, `refresh 7 seq 6 at 5.0 to 6.0 ["k","m")`, api.Res{})
	do(t, x, one, 1, `refresh 7 seq 7 at 5.0 to 6.0 ["m","q")`, api.Res{})
	is(t, "At", x.At(), at(6, 0))
	code(t, x.Abort(), api.ErrTxnState)
	do(t, x, two, 1, "end 7 yes at 6.0", api.Res{})
	code(t, x.Abort(), api.ErrTxnState)
	do(t, x, two, 1, `resolve 7 yes at 6.0 ["b","b\x00")`, api.Res{Code: api.ErrMvccForm})
	do(t, x, two, 1, `resolve 7 yes at 6.0 ["b","b\x00")`, api.Res{})
	do(t, x, two, 2, `resolve 7 yes at 6.0 ["n","n\x00")`, api.Res{})
	do(t, x, two, 1, "forget 7", api.Res{Code: api.ErrReplicaTxn})
	state(t, x, txn.Over)
	y := start(t, 7, at(5, 0), 3)
	y.Read(span("a", "c"))
	do(t, y, one, 1, `scan 7 at 5.0 ["a","c") most 90`, api.Res{})
	y.Write([]api.Op{put("b", "1")})
	do(t, y, one, 1, "begin 7 seq 1 at 5.0", api.Res{})
	do(t, y, one, 1, "put 7 seq 2 at 5.0 b=1", api.Res{At: at(5, 0)})
	y.Commit()
	ask(t, y, one, 1, "end 7 yes at 5.0")
}

// P16.4: scans of many rows.
func TestManyRows(t *testing.T) {
	var rows []api.KV
	for i := range 90 {
		rows = append(rows, api.KV{Key: []byte(fmt.Sprintf("k%02d", i))})
	}
	x := start(t, 7, at(5, 0), 3)
	x.Read(span("a", "z"))
	do(t, x, one, 1, `scan 7 at 5.0 ["a","z") most 90`, api.Res{Rows: rows})
	do(t, x, two, 1, `scan 7 at 5.0 ["k89\x00","m") most 90`, api.Res{Rows: rows[:89]})
	do(t, x, two, 2, `scan 7 at 5.0 ["m","z") most 90`, api.Res{})
	state(t, x, txn.Idle)
	is(t, "Rows", len(x.Rows()), 179)
	x.Read(span("a", "k89\x00"))
	is(t, "Rows", len(x.Rows()), 0)
	do(t, x, one, 1, `scan 7 at 5.0 ["a","k89\x00") most 90`, api.Res{Rows: rows})
	state(t, x, txn.Idle)
	x.Read(span("", ""))
	do(t, x, one, 1, `scan 7 at 5.0 ["","") most 90`, api.Res{Rows: rows})
	do(t, x, one, 1, `scan 7 at 5.0 ["k89\x00","") most 90`, api.Res{Rows: rows[:1]})
	state(t, x, txn.Idle)
}

// P16.3: no range has what is needed.
func TestNoRange(t *testing.T) {
	x := start(t, 7, at(5, 0), 3)
	x.Read(span("n", ""))
	for _, l := range [][]api.Range{nil, two[:1], {{Id: 3, Gen: 1, Span: span("o", "")}}} {
		if q, ok := x.Next(l); ok || q.Range != 0 {
			t.Errorf("Next: %v", q)
		}
	}
	do(t, x, two[1:], 2, `scan 7 at 5.0 ["n","") most 90`, api.Res{})
	x.Write([]api.Op{put("n", "")})
	if _, ok := x.Next(two[1:]); ok {
		t.Error("there is no home")
	}
	do(t, x, two[:1], 1, "begin 7 seq 1 at 5.0", api.Res{})
	if _, ok := x.Next(two[:1]); ok {
		t.Error("there is no range of n")
	}
	ask(t, x, two[1:], 2, "put 7 seq 2 at 5.0 n=")
}

// P16.4: what is not accepted.
func TestNotAccepted(t *testing.T) {
	x := start(t, 7, at(5, 0), 3)
	if x.Answer(txn.Request{}, api.Res{}) {
		t.Error("it is idle")
	}
	x.Read(span("a", "z"))
	q := ask(t, x, one, 1, `scan 7 at 5.0 ["a","z") most 90`)
	wrong := []func(q *txn.Request){
		func(q *txn.Request) { q.Turn = 1 }, func(q *txn.Request) { q.Turn = -1 }, func(q *txn.Request) { q.Cmd.Kind++ }, func(q *txn.Request) { q.Cmd.Txn++ }, func(q *txn.Request) { q.Cmd.Seq++ }, func(q *txn.Request) { q.Cmd.At.Logic++ },
		func(q *txn.Request) { q.Cmd.To.Wall++ }, func(q *txn.Request) { q.Cmd.By++ }, func(q *txn.Request) { q.Cmd.Yes = true }, func(q *txn.Request) { q.Cmd.Del = true }, func(q *txn.Request) { q.Cmd.Key = []byte("k") }, func(q *txn.Request) { q.Cmd.Value = []byte("k") },
		func(q *txn.Request) { q.Cmd.Span.From = []byte("b") }, func(q *txn.Request) { q.Cmd.Most = 89 },
	}
	for i, f := range wrong {
		p := q
		f(&p)
		if x.Answer(p, api.Res{}) {
			t.Errorf("%d is accepted", i)
		}
	}
	if x.Answer(q, api.Res{Code: api.ErrReplicaKey}) {
		t.Error("ErrReplicaKey is accepted")
	}
	p := q
	p.Cmd.Span.To, p.Range = []byte("c"), 9
	if !x.Answer(p, api.Res{}) {
		t.Error("another end is not accepted")
	}
	q = ask(t, x, one, 1, `scan 7 at 5.0 ["c","z") most 90`)
	is(t, "Turn", q.Turn, 1)
}

// P16.4: errors, and answers that make no sense.
func TestErrors(t *testing.T) {
	x := start(t, 7, at(5, 0), 3)
	x.Read(span("a", "z"))
	do(t, x, one, 1, `scan 7 at 5.0 ["a","z") most 90`, api.Res{Code: api.ErrMvccOld})
	state(t, x, txn.Over)
	for _, r := range []api.Res{{Code: api.ErrMvccIntent}, {Code: api.ErrMvccIntent, By: 7}, {Code: api.ErrReplicaAgain}} {
		x = start(t, 7, at(5, 0), 3)
		x.Write([]api.Op{put("a", "")})
		do(t, x, one, 1, "begin 7 seq 1 at 5.0", api.Res{})
		do(t, x, one, 1, "put 7 seq 2 at 5.0 a=", r)
		state(t, x, txn.Aborted)
		do(t, x, one, 1, "end 7 at 5.0", api.Res{})
		do(t, x, one, 1, "forget 7", api.Res{})
		state(t, x, txn.Over)
	}
	x = start(t, 7, at(5, 0), 3)
	x.Write([]api.Op{put("a", "")})
	do(t, x, one, 1, "begin 7 seq 1 at 5.0", api.Res{Code: api.ErrReplicaFull})
	state(t, x, txn.Over)
	for _, r := range []api.Res{{}, {State: 4}, {Code: api.ErrReplicaFull}, {Code: api.ErrMvccIntent, By: 3}} {
		x = start(t, 7, at(5, 0), 3)
		x.Write([]api.Op{put("a", ""), put("b", "")})
		do(t, x, one, 1, "begin 7 seq 1 at 5.0", api.Res{})
		do(t, x, one, 1, "put 7 seq 2 at 5.0 a=", api.Res{At: at(5, 0)})
		do(t, x, one, 1, "put 7 seq 3 at 5.0 b=", api.Res{Code: api.ErrMvccIntent, By: 9})
		do(t, x, one, 1, "push 9 by 7 at 5.0", r)
		state(t, x, txn.Aborted)
		is(t, "Blocked", x.Blocked(), 0)
		do(t, x, one, 1, "end 7 at 5.0", api.Res{Code: api.ErrReplicaTxn, State: api.TxnCommitted})
		do(t, x, one, 1, `resolve 7 at 0.0 ["a","a\x00")`, api.Res{Code: api.ErrReplicaForm})
		do(t, x, one, 1, `resolve 7 at 0.0 ["a","a\x00")`, api.Res{})
	}
	x = start(t, 7, at(5, 0), 3)
	x.Read(span("a", "z"))
	do(t, x, one, 1, `scan 7 at 5.0 ["a","z") most 90`, api.Res{})
	x.Write([]api.Op{put("a", "")})
	do(t, x, one, 1, "begin 7 seq 1 at 5.0", api.Res{})
	do(t, x, one, 1, "put 7 seq 2 at 5.0 a=", api.Res{At: at(6, 0)})
	x.Commit()
	do(t, x, one, 1, `refresh 7 seq 3 at 5.0 to 6.0 ["a","z")`, api.Res{Code: api.ErrReplicaAgain})
	state(t, x, txn.Aborted)
	y := start(t, 8, at(5, 0), 3)
	y.Write([]api.Op{put("a", "")})
	do(t, y, one, 1, "begin 8 seq 1 at 5.0", api.Res{})
	do(t, y, one, 1, "put 8 seq 2 at 5.0 a=", api.Res{At: at(6, 0)})
	y.Commit()
	do(t, y, one, 1, "end 8 yes at 6.0", api.Res{Code: api.ErrReplicaTxn, State: api.TxnAborted})
	state(t, y, txn.Aborted)
	do(t, y, one, 1, "end 8 at 6.0", api.Res{})
	z := start(t, 8, at(5, 0), 1)
	z.Read(span("", ""))
	do(t, z, one, 1, `scan 8 at 5.0 ["","") most 90`, api.Res{Code: api.ErrMvccIntent, By: 9})
	do(t, z, one, 1, "push 9 by 8 at 5.0", api.Res{State: api.TxnAborted})
	do(t, z, one, 1, `resolve 9 at 0.0 ["","")`, api.Res{Code: api.ErrArg})
	state(t, z, txn.Over)
}
