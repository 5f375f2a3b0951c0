package simnet_test

import (
	"bytes"
	"math/rand"
	"reflect"
	"slices"
	"testing"

	"cormorant/api"
	"cormorant/simnet"
)

func envelope(from, to, kind int, body string) api.Envelope {
	return api.Envelope{From: from, To: to, Kind: kind, Body: []byte(body)}
}

func send(t *testing.T, n *simnet.Net, e api.Envelope, id int, code api.Errno) {
	t.Helper()
	if got, c := n.Send(e); got != id || c != code {
		t.Errorf("Send: %d %d, want %d %d", got, c, id, code)
	}
}

// P9.1
func TestSend(t *testing.T) {
	n := simnet.New()
	if n.Len() != 0 || len(n.To(1)) != 0 {
		t.Error("New")
	}
	for _, e := range []api.Envelope{envelope(0, 1, 1, ""), envelope(6, 1, 1, ""), envelope(1, 0, 1, ""), envelope(1, 6, 1, ""), envelope(1, 1, 0, ""), envelope(1, 1, 256, ""), {From: 1, To: 1, Kind: 1, Body: make([]byte, api.MaxBody+1)}} {
		send(t, n, e, 0, api.ErrArg)
	}
	send(t, n, api.Envelope{Id: 77, From: 1, To: 5, Kind: 255, Body: make([]byte, api.MaxBody)}, 1, api.OK)
	body := []byte("xy")
	send(t, n, api.Envelope{From: 5, To: 5, Kind: 1, Body: body}, 2, api.OK)
	body[0] = 'z'
	e, ok := n.At(1)
	if !ok || !reflect.DeepEqual(e, api.Envelope{Id: 2, From: 5, To: 5, Kind: 1, Body: []byte("xy")}) {
		t.Errorf("At: %v", e)
	}
	e.Body[0] = 'q'
	if e, _ := n.At(1); string(e.Body) != "xy" {
		t.Error("an answer shares memory")
	}
	for i := range api.MaxFlight - 2 {
		send(t, n, envelope(1, 2, 1, ""), i+3, api.OK)
	}
	send(t, n, envelope(1, 2, 1, ""), 0, api.ErrNetFull)
	send(t, n, envelope(1, 2, 0, ""), 0, api.ErrArg)
	if _, e := n.Double(5); e != api.ErrNetFull {
		t.Errorf("Double: %d", e)
	}
	if _, e := n.Double(5000); e != api.ErrNetNone {
		t.Errorf("Double: %d", e)
	}
	n.Drop(7)
	send(t, n, envelope(1, 2, 1, ""), api.MaxFlight+1, api.OK)
}

// P9.2, P9.3, the first example
func TestFlight(t *testing.T) {
	n := simnet.New()
	send(t, n, envelope(1, 2, 3, "ab"), 1, api.OK)
	send(t, n, envelope(2, 1, 4, "cd"), 2, api.OK)
	if id, e := n.Double(1); id != 3 || e != api.OK {
		t.Errorf("Double: %d %d", id, e)
	}
	if l := n.To(2); !slices.Equal(l, []int{1, 3}) {
		t.Errorf("To: %v", l)
	}
	e, c := n.Deliver(3)
	if c != api.OK || !reflect.DeepEqual(e, api.Envelope{Id: 3, From: 1, To: 2, Kind: 3, Body: []byte("ab")}) {
		t.Errorf("Deliver: %v %d", e, c)
	}
	e.Body[0] = 'q'
	if e, _ := n.At(0); string(e.Body) != "ab" {
		t.Error("the double shares memory")
	}
	if c := n.Drop(1); c != api.OK || n.Len() != 1 {
		t.Errorf("Drop: %d", c)
	}
	if e, c := n.Deliver(1); !reflect.DeepEqual(e, api.Envelope{}) || c != api.ErrNetNone {
		t.Errorf("Deliver: %v %d", e, c)
	}
	for _, id := range []int{1, 3, 0, -1, 4} {
		if c := n.Drop(id); c != api.ErrNetNone {
			t.Errorf("Drop(%d): %d", id, c)
		}
		if x, c := n.Double(id); x != 0 || c != api.ErrNetNone {
			t.Errorf("Double(%d): %d", id, c)
		}
	}
	for _, k := range []int{-1, 1, 1 << 40} {
		if e, ok := n.At(k); ok || e.Id != 0 {
			t.Errorf("At(%d)", k)
		}
	}
	send(t, n, envelope(1, 2, 3, "ef"), 4, api.OK)
	if len(n.To(0)) != 0 || len(n.To(9)) != 0 || !slices.Equal(n.To(1), []int{2}) {
		t.Error("To")
	}
}

func entry(index, term, kind int, data string) api.LogEntry {
	return api.LogEntry{Index: index, Term: term, Kind: kind, Data: []byte(data)}
}

func message(kind int, change func(m *api.RaftMsg)) api.RaftMsg {
	m := api.RaftMsg{Kind: kind, Group: 1, From: 2, To: 1, Term: 300}
	if change != nil {
		change(&m)
	}
	return m
}

func encodings() map[string]api.RaftMsg {
	return map[string]api.RaftMsg{
		"\x02\x01\x02\x01\xac\x02\x01":             message(api.RaftVoted, func(m *api.RaftMsg) { m.OK = true }),
		"\x02\x01\x02\x01\xac\x02\x00":             message(api.RaftVoted, nil),
		"\x01\x01\x02\x01\xac\x02\x00\x80\x10":     message(api.RaftVote, func(m *api.RaftMsg) { m.LogTerm = 2048 }),
		"\x03\x01\x02\x01\xac\x02\x05\x07\x06\x00": message(api.RaftAppend, func(m *api.RaftMsg) { m.Index, m.LogTerm, m.Commit = 5, 7, 6 }),
		"\x03\x01\x02\x01\xac\x02\x00\x00\x00\x03\x01\x01\x00\xac\x02\x02\x02ab\x02\x03\x02\x01\x05": message(api.RaftAppend, func(m *api.RaftMsg) {
			m.Entries = []api.LogEntry{entry(1, 1, api.EntryNone, ""), entry(2, 300, api.EntryData, "ab"), entry(3, 2, api.EntryMember, "\x01\x05")}
		}),
		"\x04\x01\x02\x01\xac\x02\x01\x09":                         message(api.RaftAppended, func(m *api.RaftMsg) { m.OK, m.Index = true, 9 }),
		"\x05\x01\x02\x01\xac\x02\x09\x08\x03\x01\x02\x04\x03xyz":  message(api.RaftSnap, func(m *api.RaftMsg) { m.Index, m.LogTerm, m.Members, m.Data = 9, 8, []int{1, 2, 4}, []byte("xyz") }),
		"\x05\xff\x02\x01\xac\x02\x09\xac\x02\x01\x05\x00":         message(api.RaftSnap, func(m *api.RaftMsg) { m.Group, m.Index, m.LogTerm, m.Members = 255, 9, 300, []int{5} }),
		"\x04\x01\x02\x01\xff\xff\xff\xff\xff\xff\xff\x0f\x00\x00": message(api.RaftAppended, func(m *api.RaftMsg) { m.Term = api.MaxWall }),
	}
}

func sameMessage(a, b api.RaftMsg) bool {
	x, y := a, b
	x.Entries, x.Members, x.Data, y.Entries, y.Members, y.Data = nil, nil, nil, nil, nil, nil
	return reflect.DeepEqual(x, y) && slices.Equal(a.Members, b.Members) && bytes.Equal(a.Data, b.Data) &&
		slices.EqualFunc(a.Entries, b.Entries, func(e, f api.LogEntry) bool {
			return e.Index == f.Index && e.Term == f.Term && e.Kind == f.Kind && bytes.Equal(e.Data, f.Data)
		})
}

// P9.4, P9.5
func TestEncode(t *testing.T) {
	for want, m := range encodings() {
		b, e := simnet.Encode(m)
		if string(b) != want || e != api.OK {
			t.Errorf("%v: %q %d", m, b, e)
		}
		if x, e := simnet.Decode([]byte(want)); !sameMessage(x, m) || e != api.OK {
			t.Errorf("%q: %v %d", want, x, e)
		}
		for i := range want {
			if _, e := simnet.Decode([]byte(want[:i])); e != api.ErrNetForm {
				t.Errorf("%q: %d", want[:i], e)
			}
		}
		if _, e := simnet.Decode([]byte(want + "\x00")); e != api.ErrNetForm {
			t.Errorf("%q and more: %d", want, e)
		}
	}
}

// P9.4
func TestWrongMessages(t *testing.T) {
	change := func(kind int, f func(m *api.RaftMsg)) api.RaftMsg { return message(kind, f) }
	good := func(m *api.RaftMsg) { m.Index, m.LogTerm, m.Members = 1, 1, []int{1} }
	var many []api.LogEntry
	for i := range 65 {
		many = append(many, entry(i+1, 1, api.EntryNone, ""))
	}
	wrong := []api.RaftMsg{
		change(0, nil), change(6, nil),
		change(api.RaftVoted, func(m *api.RaftMsg) { m.Group = 0 }), change(api.RaftVoted, func(m *api.RaftMsg) { m.Group = 256 }),
		change(api.RaftVoted, func(m *api.RaftMsg) { m.From = 0 }), change(api.RaftVoted, func(m *api.RaftMsg) { m.To = 6 }),
		change(api.RaftVoted, func(m *api.RaftMsg) { m.Term = 0 }), change(api.RaftVoted, func(m *api.RaftMsg) { m.Term = api.MaxWall + 1 }),
		change(api.RaftVoted, func(m *api.RaftMsg) { m.Index = 1 }), change(api.RaftVoted, func(m *api.RaftMsg) { m.LogTerm = 1 }),
		change(api.RaftVoted, func(m *api.RaftMsg) { m.Commit = 1 }), change(api.RaftVoted, func(m *api.RaftMsg) { m.Members = []int{1} }),
		change(api.RaftVoted, func(m *api.RaftMsg) { m.Data = []byte{1} }), change(api.RaftVoted, func(m *api.RaftMsg) { m.Entries = many[:1] }),
		change(api.RaftVote, func(m *api.RaftMsg) { m.OK = true }), change(api.RaftVote, func(m *api.RaftMsg) { m.Index = -1 }),
		change(api.RaftVote, func(m *api.RaftMsg) { m.LogTerm = api.MaxWall + 1 }), change(api.RaftVote, func(m *api.RaftMsg) { m.Commit = 1 }),
		change(api.RaftAppend, func(m *api.RaftMsg) { m.LogTerm = 301 }), change(api.RaftAppend, func(m *api.RaftMsg) { m.OK = true }),
		change(api.RaftAppend, func(m *api.RaftMsg) { m.Entries = many }), change(api.RaftAppend, func(m *api.RaftMsg) { m.Entries = many[1:3] }),
		change(api.RaftAppend, func(m *api.RaftMsg) { m.Index, m.Entries = 1, many[:1] }), change(api.RaftAppend, func(m *api.RaftMsg) { m.Commit = -1 }),
		change(api.RaftAppend, func(m *api.RaftMsg) { m.Entries = []api.LogEntry{many[0], many[2]} }),
		change(api.RaftAppend, func(m *api.RaftMsg) { m.Entries = []api.LogEntry{entry(1, 301, api.EntryNone, "")} }),
		change(api.RaftAppend, func(m *api.RaftMsg) { m.Entries = []api.LogEntry{entry(1, 0, api.EntryNone, "")} }),
		change(api.RaftAppend, func(m *api.RaftMsg) { m.Entries = []api.LogEntry{entry(1, 1, api.EntryNone, "x")} }),
		change(api.RaftAppend, func(m *api.RaftMsg) { m.Entries = []api.LogEntry{entry(1, 1, 0, "")} }),
		change(api.RaftAppend, func(m *api.RaftMsg) { m.Entries = []api.LogEntry{entry(1, 1, 4, "")} }),
		change(api.RaftAppend, func(m *api.RaftMsg) {
			m.Entries = []api.LogEntry{entry(1, 1, api.EntryData, string(make([]byte, 12001)))}
		}),
		change(api.RaftAppend, func(m *api.RaftMsg) { m.Entries = []api.LogEntry{entry(1, 1, api.EntryMember, "")} }),
		change(api.RaftAppend, func(m *api.RaftMsg) { m.Entries = []api.LogEntry{entry(1, 1, api.EntryMember, "\x02\x01")} }),
		change(api.RaftAppend, func(m *api.RaftMsg) { m.Entries = []api.LogEntry{entry(1, 1, api.EntryMember, "\x01\x01")} }),
		change(api.RaftAppend, func(m *api.RaftMsg) { m.Entries = []api.LogEntry{entry(1, 1, api.EntryMember, "\x06")} }),
		change(api.RaftAppend, func(m *api.RaftMsg) {
			m.Index, m.Entries = api.MaxWall, []api.LogEntry{entry(api.MaxWall+1, 1, api.EntryNone, "")}
		}),
		change(api.RaftAppended, func(m *api.RaftMsg) { m.LogTerm = 1 }),
		change(api.RaftSnap, func(m *api.RaftMsg) { good(m); m.LogTerm = 301 }), change(api.RaftSnap, func(m *api.RaftMsg) { good(m); m.Members = nil }),
		change(api.RaftSnap, func(m *api.RaftMsg) { good(m); m.Members = []int{0} }), change(api.RaftSnap, func(m *api.RaftMsg) { good(m); m.Members = []int{3, 2} }),
		change(api.RaftSnap, func(m *api.RaftMsg) { good(m); m.Data = make([]byte, 60001) }), change(api.RaftSnap, func(m *api.RaftMsg) { good(m); m.Commit = 1 }),
		change(api.RaftSnap, func(m *api.RaftMsg) { good(m); m.OK = true }),
	}
	for i, m := range wrong {
		if b, e := simnet.Encode(m); b != nil || e != api.ErrNetForm {
			t.Errorf("%d: %d", i, e)
		}
	}
	right := []api.RaftMsg{
		change(api.RaftAppend, func(m *api.RaftMsg) { m.Entries = many[:64] }),
		change(api.RaftAppend, func(m *api.RaftMsg) { m.Entries = []api.LogEntry{entry(1, 2, 1, ""), entry(2, 1, 1, "")} }),
		change(api.RaftAppend, func(m *api.RaftMsg) {
			m.Entries = []api.LogEntry{entry(1, 1, api.EntryData, string(make([]byte, 12000)))}
		}),
		change(api.RaftSnap, func(m *api.RaftMsg) { good(m); m.Data = make([]byte, 60000) }),
		change(api.RaftVote, func(m *api.RaftMsg) { m.Index, m.LogTerm = api.MaxWall, api.MaxWall }),
		change(api.RaftSnap, func(m *api.RaftMsg) { good(m); m.Members = []int{1, 2, 3, 4, 5} }),
	}
	for i, m := range right {
		b, e := simnet.Encode(m)
		if e != api.OK {
			t.Errorf("%d: %d", i, e)
		}
		if x, e := simnet.Decode(b); e != api.OK || !sameMessage(x, m) {
			t.Errorf("%d: %d", i, e)
		}
	}
	for _, s := range []string{"", "\x00\x01\x02\x01\x01", "\x02\x01\x02\x01\x80\x00\x01", "\x02\x01\x02\x01\x01\x02", "\x04\x01\x02\x01\x01\x02\x00", "\x03\x01\x02\x01\x01\x00\x00\x00\x41", "\x03\x01\x02\x01\x01\x00\x00\x00\xff\xff\xff\xff\xff\xff\xff\x0f", "\x05\x01\x02\x01\x01\x00\x00\xff\xff\xff\xff\xff\xff\xff\x0f", "\x02\x01\x02\x01\xff\xff\xff\xff\xff\xff\xff\xff\x01\x01"} {
		if m, e := simnet.Decode([]byte(s)); !sameMessage(m, api.RaftMsg{}) || e != api.ErrNetForm {
			t.Errorf("%q: %d", s, e)
		}
	}
}

// P9.5: what is decoded from changed bytes has these as its encoding.
func TestOnlyEncodings(t *testing.T) {
	r := rand.New(rand.NewSource(9))
	for s := range encodings() {
		for range 3000 {
			b := []byte(s)
			for range 1 + r.Intn(2) {
				b[r.Intn(len(b))] = byte(r.Intn(10))
			}
			if m, e := simnet.Decode(b); e == api.OK {
				if again, _ := simnet.Encode(m); !bytes.Equal(again, b) {
					t.Fatalf("%q", b)
				}
			}
		}
	}
	in := []byte("\x05\x01\x02\x01\xac\x02\x09\x08\x03\x01\x02\x04\x03xyz")
	m, _ := simnet.Decode(in)
	clear(in)
	if string(m.Data) != "xyz" {
		t.Error("it shares memory")
	}
}

// P9.5: nothing comes but what was sent, each number once.
func TestDelivery(t *testing.T) {
	r := rand.New(rand.NewSource(95))
	n := simnet.New()
	sent := map[int]api.Envelope{}
	last := 0
	for range 5000 {
		id := 1 + r.Intn(last+1)
		want, there := sent[id]
		switch r.Intn(4) {
		case 0, 1:
			e := envelope(1+r.Intn(5), 1+r.Intn(5), 1+r.Intn(9), string(rune(r.Intn(1000))))
			last++
			send(t, n, e, last, api.OK)
			e.Id = last
			sent[last] = e
		case 2:
			e, c := n.Deliver(id)
			if (c == api.OK) != there || there && !reflect.DeepEqual(e, want) {
				t.Fatalf("Deliver(%d): %v %d", id, e, c)
			}
			delete(sent, id)
		case 3:
			x, c := n.Double(id)
			if (c == api.OK) != there {
				t.Fatalf("Double(%d): %d", id, c)
			}
			if there {
				last++
				want.Id = last
				sent[last] = want
				if x != last {
					t.Fatalf("Double: %d, want %d", x, last)
				}
			}
		}
		if n.Len() > 900 {
			for k := range sent {
				n.Drop(k)
			}
			clear(sent)
		}
		if n.Len() != len(sent) {
			t.Fatal("Len")
		}
	}
	ids := n.To(3)
	if !slices.IsSorted(ids) {
		t.Error("To")
	}
	for k := range n.Len() {
		if e, ok := n.At(k); !ok || !reflect.DeepEqual(e, sent[e.Id]) {
			t.Errorf("At(%d)", k)
		}
	}
}
