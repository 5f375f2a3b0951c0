package raftlog_test

import (
	"bytes"
	"math"
	"math/rand"
	"reflect"
	"slices"
	"testing"

	"cormorant/api"
	"cormorant/raftlog"
)

func entry(index, term int) api.LogEntry {
	return api.LogEntry{Index: index, Term: term, Kind: api.EntryData, Data: []byte{byte(index), byte(term)}}
}

func entries(index int, terms ...int) []api.LogEntry {
	var l []api.LogEntry
	for i, t := range terms {
		l = append(l, entry(index+i, t))
	}
	return l
}

func member(index, term int, nodes ...byte) api.LogEntry {
	return api.LogEntry{Index: index, Term: term, Kind: api.EntryMember, Data: nodes}
}

func point(index, term int, members ...int) raftlog.Point {
	return raftlog.Point{Index: index, Term: term, Members: members}
}

func load(t *testing.T, p raftlog.Point, l []api.LogEntry, commit int) *raftlog.Log {
	t.Helper()
	x, e := raftlog.Load(p, l, commit)
	if e != api.OK {
		t.Fatalf("Load: %d", e)
	}
	return x
}

func terms(x *raftlog.Log) []int {
	l := []int{}
	for _, e := range x.Slice(x.Start().Index+1, math.MaxInt) {
		l = append(l, e.Term)
	}
	return l
}

func is(t *testing.T, what string, got, want any) {
	t.Helper()
	if !reflect.DeepEqual(got, want) {
		t.Errorf("%s: %v, want %v", what, got, want)
	}
}

// P10.1
func TestNewAndLoad(t *testing.T) {
	for _, l := range [][]int{nil, {0}, {6}, {2, 1}, {1, 1}, {1, 2, 3, 4, 5, 6}} {
		if x, e := raftlog.New(l); x != nil || e != api.ErrArg {
			t.Errorf("New(%v): %d", l, e)
		}
		if x, e := raftlog.Load(point(1, 1, l...), nil, 1); x != nil || e != api.ErrLogForm {
			t.Errorf("Load of %v: %d", l, e)
		}
	}
	x, e := raftlog.New([]int{1, 2, 5})
	is(t, "New", e, api.OK)
	is(t, "Start", x.Start(), point(0, 0, 1, 2, 5))
	index, term := x.Last()
	is(t, "Last", []int{index, term, x.Commit()}, []int{0, 0, 0})
	p := point(5, 2, 1, 2)
	cases := []struct {
		p      raftlog.Point
		l      []api.LogEntry
		commit int
		want   api.Errno
	}{
		{p, nil, 5, api.OK}, {p, nil, 4, api.ErrLogForm}, {p, nil, 6, api.ErrLogForm}, {p, entries(6, 2, 3), 7, api.OK}, {p, entries(6, 2, 3), 8, api.ErrLogForm},
		{p, entries(7, 2), 5, api.ErrLogForm}, {p, entries(6, 1), 5, api.ErrLogForm}, {p, entries(6, 3, 2), 5, api.ErrLogForm}, {p, []api.LogEntry{entry(6, 2), entry(8, 2)}, 5, api.ErrLogForm},
		{point(0, 1, 1), nil, 0, api.ErrLogForm}, {point(1, 0, 1), nil, 1, api.ErrLogForm}, {point(-1, 1, 1), nil, -1, api.ErrLogForm}, {point(1, -1, 1), nil, 1, api.ErrLogForm},
		{point(api.MaxWall+1, 1, 1), nil, api.MaxWall + 1, api.ErrLogForm}, {point(1, api.MaxWall+1, 1), nil, 1, api.ErrLogForm}, {point(api.MaxWall, api.MaxWall, 1), nil, api.MaxWall, api.OK},
		{point(api.MaxWall, 1, 1), entries(api.MaxWall+1, 1), api.MaxWall, api.ErrLogForm}, {point(0, 0, 1), entries(1, 0), 0, api.ErrLogForm},
		{p, []api.LogEntry{{Index: 6, Term: 2, Kind: api.EntryNone, Data: []byte{1}}}, 5, api.ErrLogForm}, {p, []api.LogEntry{{Index: 6, Term: 2, Kind: 4}}, 5, api.ErrLogForm},
		{p, []api.LogEntry{member(6, 2)}, 5, api.ErrLogForm}, {p, []api.LogEntry{member(6, 2, 6)}, 5, api.ErrLogForm}, {p, []api.LogEntry{member(6, 2, 1, 5)}, 5, api.OK},
		{p, []api.LogEntry{{Index: 6, Term: 2, Kind: api.EntryData, Data: make([]byte, 12001)}}, 5, api.ErrLogForm}, {p, []api.LogEntry{{Index: 6, Term: 2, Kind: api.EntryData, Data: make([]byte, 12000)}}, 5, api.OK},
	}
	for i, c := range cases {
		if x, e := raftlog.Load(c.p, c.l, c.commit); e != c.want || (x == nil) != (e != api.OK) {
			t.Errorf("%d: %d, want %d", i, e, c.want)
		}
	}
}

// P10.2
func TestLooks(t *testing.T) {
	in := entries(6, 2, 3, 3)
	x := load(t, point(5, 2, 1, 2), in, 6)
	in[0].Data[0] = 99
	is(t, "Commit", x.Commit(), 6)
	index, term := x.Last()
	is(t, "Last", []int{index, term}, []int{8, 3})
	for i, want := range map[int]int{5: 2, 6: 2, 7: 3, 8: 3} {
		term, e := x.Term(i)
		is(t, "Term", []int{term, int(e)}, []int{want, 0})
		y, e := x.At(i)
		if i > 5 && (!reflect.DeepEqual(y, entry(i, want)) || e != api.OK) || i == 5 && e != api.ErrLogIndex {
			t.Errorf("At(%d): %v %d", i, y, e)
		}
	}
	for _, i := range []int{4, 9, 0, -1, math.MinInt, math.MaxInt} {
		term, e := x.Term(i)
		is(t, "Term", []int{term, int(e)}, []int{0, int(api.ErrLogIndex)})
		y, e := x.At(i)
		if y.Index != 0 || e != api.ErrLogIndex {
			t.Errorf("At(%d): %d", i, e)
		}
		is(t, "Slice", len(x.Slice(i, 5)), 0)
	}
	is(t, "Slice", x.Slice(6, 2), entries(6, 2, 3))
	is(t, "Slice", x.Slice(7, math.MaxInt), entries(7, 3, 3))
	is(t, "Slice", len(x.Slice(6, 0)), 0)
	is(t, "Slice", len(x.Slice(6, -1)), 0)
	is(t, "Slice", len(x.Slice(5, 2)), 0)
	x.Slice(6, 1)[0].Data[0] = 99
	x.Start().Members[0] = 4
	is(t, "Start", x.Start(), point(5, 2, 1, 2))
	is(t, "Slice", x.Slice(6, 1), entries(6, 2))
}

// P10.3
func TestAdd(t *testing.T) {
	x := load(t, point(5, 2, 1, 2), entries(6, 3), 5)
	for _, c := range []struct {
		term, kind int
		data       string
	}{{2, 1, ""}, {0, 1, ""}, {3, 0, ""}, {3, 4, ""}, {3, 1, "x"}, {3, 3, ""}, {3, 3, "\x02\x01"}, {3, 2, string(make([]byte, 12001))}, {api.MaxWall + 1, 1, ""}} {
		if i, e := x.Add(c.term, c.kind, []byte(c.data)); i != 0 || e != api.ErrArg {
			t.Errorf("Add(%d, %d): %d %d", c.term, c.kind, i, e)
		}
	}
	data := []byte("x")
	i, e := x.Add(3, api.EntryData, data)
	is(t, "Add", []int{i, int(e)}, []int{7, 0})
	data[0] = 'y'
	y, _ := x.At(7)
	is(t, "At", string(y.Data), "x")
	i, e = x.Add(api.MaxWall, api.EntryNone, nil)
	is(t, "Add", []int{i, int(e)}, []int{8, 0})
	z := load(t, point(api.MaxWall, 1, 1), nil, api.MaxWall)
	_, e = z.Add(1, api.EntryNone, nil)
	is(t, "Add at the end", e, api.ErrArg)
}

// P10.4
func TestOffer(t *testing.T) {
	// The log: the point 5 of the term 2; 6 to 9 of the terms 2, 3, 3, 5; committed up to 7.
	cases := []struct {
		index, term int
		l           []api.LogEntry
		k           int
		ok          bool
		e           api.Errno
		after       []int
	}{
		{9, 5, nil, 9, true, 0, []int{2, 3, 3, 5}}, {9, 5, entries(10, 5, 6), 11, true, 0, []int{2, 3, 3, 5, 5, 6}},
		{7, 3, entries(8, 3), 8, true, 0, []int{2, 3, 3, 5}}, {7, 3, entries(8, 3, 5), 9, true, 0, []int{2, 3, 3, 5}},
		{7, 3, entries(8, 4), 8, true, 0, []int{2, 3, 4}}, {7, 3, entries(8, 3, 6, 6), 10, true, 0, []int{2, 3, 3, 6, 6}},
		{8, 3, entries(9, 4), 9, true, 0, []int{2, 3, 3, 4}}, {6, 2, nil, 6, true, 0, []int{2, 3, 3, 5}},
		{6, 2, entries(7, 4), 0, false, api.ErrLogTerm, []int{2, 3, 3, 5}}, {5, 2, entries(6, 2, 3, 3, 5, 5), 10, true, 0, []int{2, 3, 3, 5, 5}},
		{9, 4, nil, 8, false, 0, []int{2, 3, 3, 5}}, {9, 6, entries(10, 6), 8, false, 0, []int{2, 3, 3, 5}}, {10, 5, nil, 9, false, 0, []int{2, 3, 3, 5}},
		{99, 5, nil, 9, false, 0, []int{2, 3, 3, 5}}, {8, 4, nil, 7, false, 0, []int{2, 3, 3, 5}}, {7, 4, nil, 7, false, 0, []int{2, 3, 3, 5}}, {5, 1, nil, 7, false, 0, []int{2, 3, 3, 5}},
		{3, 1, nil, 5, true, 0, []int{2, 3, 3, 5}}, {3, 7, nil, 5, true, 0, []int{2, 3, 3, 5}}, {3, 1, entries(4, 1, 2), 5, true, 0, []int{2, 3, 3, 5}}, {0, 0, entries(1, 1, 1), 5, true, 0, []int{2, 3, 3, 5}},
		{3, 1, entries(4, 1, 1, 2, 3, 4), 8, true, 0, []int{2, 3, 4}}, {3, 1, entries(4, 1, 1, 1), 0, false, api.ErrLogTerm, []int{2, 3, 3, 5}},
		{3, 1, entries(4, 1, 2, 2, 3, 3, 5, 9), 10, true, 0, []int{2, 3, 3, 5, 9}}, {3, 1, entries(4, 1, 2, 2, 4), 0, false, api.ErrLogTerm, []int{2, 3, 3, 5}},
		{-1, 0, nil, 0, false, api.ErrArg, []int{2, 3, 3, 5}}, {1, -1, nil, 0, false, api.ErrArg, []int{2, 3, 3, 5}}, {api.MaxWall + 1, 5, nil, 0, false, api.ErrArg, []int{2, 3, 3, 5}},
		{9, 5, entries(11, 5), 0, false, api.ErrArg, []int{2, 3, 3, 5}}, {9, 5, entries(10, 4), 0, false, api.ErrArg, []int{2, 3, 3, 5}}, {9, 5, []api.LogEntry{{Index: 10, Term: 5}}, 0, false, api.ErrArg, []int{2, 3, 3, 5}},
	}
	for i, c := range cases {
		x := load(t, point(5, 2, 1, 2), entries(6, 2, 3, 3, 5), 7)
		k, ok, e := x.Offer(c.index, c.term, c.l)
		if k != c.k || ok != c.ok || e != c.e {
			t.Errorf("%d: %d %v %d, want %d %v %d", i, k, ok, e, c.k, c.ok, c.e)
		}
		is(t, "after", terms(x), c.after)
		is(t, "Commit", x.Commit(), 7)
		if len(c.l) > 0 {
			c.l[len(c.l)-1].Data = append(c.l[len(c.l)-1].Data[:0], 99, 99)
			for _, y := range x.Slice(6, 99) {
				if bytes.Equal(y.Data, []byte{99, 99}) {
					t.Errorf("%d: it keeps what was handed in", i)
				}
			}
		}
	}
	x := load(t, point(0, 0, 1), nil, 0)
	k, ok, e := x.Offer(0, 1, nil)
	is(t, "at 0, 1", []any{k, ok, e}, []any{0, false, api.OK})
}

// P10.5
func TestSettleCutReset(t *testing.T) {
	x := load(t, point(5, 2, 1, 2), []api.LogEntry{entry(6, 2), member(7, 3, 1, 2, 4), entry(8, 3), member(9, 3, 1, 2)}, 5)
	is(t, "Settle", x.Settle(10), api.ErrLogIndex)
	is(t, "Settle", x.Settle(8), api.OK)
	is(t, "Settle", x.Settle(6), api.OK)
	is(t, "Settle", x.Settle(-9), api.OK)
	is(t, "Commit", x.Commit(), 8)
	is(t, "Cut", x.Cut(4), api.ErrLogIndex)
	is(t, "Cut", x.Cut(9), api.ErrLogIndex)
	is(t, "Cut", x.Cut(5), api.OK)
	is(t, "Start", x.Start(), point(5, 2, 1, 2))
	is(t, "Cut", x.Cut(8), api.OK)
	is(t, "Start", x.Start(), point(8, 3, 1, 2, 4))
	is(t, "terms", terms(x), []int{3})
	is(t, "Members", x.Members(), []int{1, 2})
	for _, p := range []raftlog.Point{point(9, 3), point(9, 0, 1), point(0, 0, 0)} {
		is(t, "Reset", x.Reset(p), api.ErrLogForm)
	}
	is(t, "Reset", x.Reset(point(8, 9, 1)), api.ErrLogIndex)
	is(t, "Reset", x.Reset(point(0, 0, 1)), api.ErrLogIndex)
	x.Add(4, api.EntryNone, nil)
	is(t, "Reset", x.Reset(point(9, 3, 3, 4)), api.OK)
	is(t, "terms", terms(x), []int{4})
	is(t, "Members", x.Members(), []int{3, 4})
	is(t, "Commit", x.Commit(), 9)
	is(t, "Reset", x.Copy().Reset(point(10, 4, 3)), api.OK)
	is(t, "Reset", x.Reset(point(10, 5, 3)), api.OK)
	is(t, "terms", terms(x), []int{})
	y := load(t, point(5, 2, 1), []api.LogEntry{entry(6, 2), member(7, 2, 1, 3), entry(8, 3)}, 5)
	is(t, "Reset at another term", y.Reset(point(7, 3, 1, 2)), api.OK)
	is(t, "terms", terms(y), []int{})
	is(t, "Members", y.Members(), []int{1, 2})
	is(t, "Start", x.Start(), point(10, 5, 3))
	is(t, "Reset", x.Reset(point(20, 5, 1)), api.OK)
	is(t, "Commit", x.Commit(), 20)
}

// P10.6 and the examples
func TestMembers(t *testing.T) {
	x, _ := raftlog.New([]int{1, 2, 3})
	i, _ := x.Add(1, api.EntryNone, nil)
	is(t, "Add", i, 1)
	k, ok, e := x.Offer(1, 1, entries(2, 1))
	is(t, "Offer", []any{k, ok, e}, []any{2, true, api.OK})
	k, ok, e = x.Offer(1, 2, nil)
	is(t, "Offer", []any{k, ok, e}, []any{0, false, api.OK})
	is(t, "Settle", x.Settle(2), api.OK)
	_, _, e = x.Offer(1, 1, entries(2, 2))
	is(t, "Offer", e, api.ErrLogTerm)
	is(t, "Cut", x.Cut(1), api.OK)
	is(t, "Start", x.Start(), point(1, 1, 1, 2, 3))
	is(t, "Changing", x.Changing(), false)
	x.Add(2, api.EntryMember, []byte{1, 2})
	is(t, "Members", x.Members(), []int{1, 2})
	is(t, "Changing", x.Changing(), true)
	l, e := x.MembersAt(2)
	is(t, "MembersAt", []any{l, e}, []any{[]int{1, 2, 3}, api.OK})
	l, e = x.MembersAt(3)
	is(t, "MembersAt", []any{l, e}, []any{[]int{1, 2}, api.OK})
	l, _ = x.MembersAt(1)
	is(t, "MembersAt", l, []int{1, 2, 3})
	for _, i := range []int{0, 4, -1} {
		l, e := x.MembersAt(i)
		is(t, "MembersAt", []int{len(l), int(e)}, []int{0, int(api.ErrLogIndex)})
	}
	x.Settle(3)
	is(t, "Changing", x.Changing(), false)
	for _, c := range []struct {
		index, term int
		want        bool
	}{{3, 2, true}, {4, 2, true}, {2, 2, false}, {0, 3, true}, {99, 1, false}} {
		is(t, "Newer", x.Newer(c.index, c.term), c.want)
	}
	y := x.Copy()
	y.Add(2, api.EntryNone, nil)
	y.Settle(4)
	y.Cut(3)
	is(t, "Start", x.Start(), point(1, 1, 1, 2, 3))
	is(t, "terms", terms(x), []int{1, 2})
	is(t, "Commit", x.Commit(), 3)
	is(t, "its Start", y.Start(), point(3, 2, 1, 2))
}

func same(a, b *raftlog.Log) bool {
	return reflect.DeepEqual(a.Start(), b.Start()) && a.Commit() == b.Commit() &&
		slices.EqualFunc(a.Slice(a.Start().Index+1, 9999), b.Slice(b.Start().Index+1, 9999), func(x, y api.LogEntry) bool {
			return x.Index == y.Index && x.Term == y.Term && x.Kind == y.Kind && bytes.Equal(x.Data, y.Data)
		})
}

// P10.7
func TestTheorem(t *testing.T) {
	r := rand.New(rand.NewSource(107))
	for range 100 {
		var logs []*raftlog.Log
		for range 4 {
			x, _ := raftlog.New([]int{1, 2, 3})
			logs = append(logs, x)
		}
		term := 0
		for range 60 {
			i := r.Intn(4)
			x := logs[i]
			switch r.Intn(3) {
			case 0:
				term++
				for range 1 + r.Intn(3) {
					x.Add(term, api.EntryData, []byte{byte(r.Intn(256))})
				}
			case 1:
				y := logs[r.Intn(4)]
				last, _ := x.Last()
				at := r.Intn(last + 1)
				mine, e := x.Term(at)
				if e != api.OK {
					continue
				}
				commit := y.Commit()
				before := y.Slice(y.Start().Index+1, commit-y.Start().Index)
				y.Offer(at, mine, x.Slice(at+1, r.Intn(5)))
				if y.Commit() < commit || !reflect.DeepEqual(y.Slice(y.Start().Index+1, commit-y.Start().Index), before) {
					t.Fatal("what is committed has changed")
				}
			case 2:
				z, e := raftlog.Load(x.Start(), x.Slice(x.Start().Index+1, 9999), x.Commit())
				if e != api.OK || !same(x, z) {
					t.Fatalf("Load: %d", e)
				}
				logs[i] = z
			}
		}
		for _, a := range logs {
			for _, b := range logs {
				last, _ := a.Last()
				for i := last; i > 0; i-- {
					p, e := a.Term(i)
					q, f := b.Term(i)
					if e == api.OK && f == api.OK && p == q {
						if !reflect.DeepEqual(a.Slice(1, i), b.Slice(1, i)) {
							t.Fatalf("they differ below %d", i)
						}
						break
					}
				}
			}
		}
	}
}
