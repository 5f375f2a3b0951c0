package raftcore_test

import (
	"bytes"
	"math/rand"
	"reflect"
	"slices"
	"testing"

	"cormorant/api"
	"cormorant/raftcore"
	"cormorant/raftlog"
)

func is(t *testing.T, what string, got, want any) {
	t.Helper()
	if !reflect.DeepEqual(got, want) {
		t.Errorf("%s: %v, want %v", what, got, want)
	}
}

func newLog(members ...int) *raftlog.Log {
	l, _ := raftlog.New(members)
	return l
}

func loaded(t *testing.T, p raftlog.Point, terms []int, commit int) *raftlog.Log {
	t.Helper()
	var l []api.LogEntry
	for i, term := range terms {
		l = append(l, api.LogEntry{Index: p.Index + 1 + i, Term: term, Kind: api.EntryNone})
	}
	x, e := raftlog.Load(p, l, commit)
	if e != api.OK {
		t.Fatalf("Load: %d", e)
	}
	return x
}

func raft(t *testing.T, id, term, vote int, l *raftlog.Log) *raftcore.Raft {
	t.Helper()
	r, e := raftcore.New(7, id, term, vote, l, nil)
	if e != api.OK {
		t.Fatalf("New: %d", e)
	}
	return r
}

// msg is a message of the group 7 to the node 1.
func msg(kind, from, term int, change func(m *api.RaftMsg)) api.RaftMsg {
	m := api.RaftMsg{Kind: kind, Group: 7, From: from, To: 1, Term: term}
	if change != nil {
		change(&m)
	}
	return m
}

func step(t *testing.T, r *raftcore.Raft, m api.RaftMsg) []api.RaftMsg {
	t.Helper()
	l, e := r.Step(m)
	if e != api.OK {
		t.Fatalf("Step(%v): %d", m, e)
	}
	return l
}

// sent checks who is sent what: kind, OK, Index and the number of entries.
func sent(t *testing.T, l []api.RaftMsg, want ...[5]int) {
	t.Helper()
	got := [][5]int{}
	for _, m := range l {
		ok := 0
		if m.OK {
			ok = 1
		}
		got = append(got, [5]int{m.To, m.Kind, ok, m.Index, len(m.Entries)})
	}
	if want == nil {
		want = [][5]int{}
	}
	if !reflect.DeepEqual(got, want) {
		t.Errorf("sent %v, want %v", got, want)
	}
}

func leader(t *testing.T, l *raftlog.Log, term int) *raftcore.Raft {
	t.Helper()
	r := raft(t, 1, term, 0, l)
	r.Tick(1)
	for _, n := range []int{2, 3, 4, 5} {
		if r.Role() == raftcore.Candidate {
			step(t, r, msg(api.RaftVoted, n, term+1, func(m *api.RaftMsg) { m.OK = true }))
		}
	}
	if r.Role() != raftcore.Leader || r.Leader() != 1 {
		t.Fatal("it is not the leader")
	}
	return r
}

func appended(from, term int, ok bool, index int) api.RaftMsg {
	return msg(api.RaftAppended, from, term, func(m *api.RaftMsg) { m.OK, m.Index = ok, index })
}

// P11.1
func TestNew(t *testing.T) {
	l := loaded(t, raftlog.Point{Members: []int{1, 2}}, []int{3}, 0)
	for _, c := range [][4]int{{0, 1, 3, 0}, {256, 1, 3, 0}, {1, 0, 3, 0}, {1, 6, 3, 0}, {1, 1, -1, 0}, {1, 1, api.MaxWall + 1, 0}, {1, 1, 3, -1}, {1, 1, 3, 6}, {1, 1, 2, 0}} {
		if r, e := raftcore.New(c[0], c[1], c[2], c[3], l, nil); r != nil || e != api.ErrArg {
			t.Errorf("New(%v): %d", c, e)
		}
	}
	if _, e := raftcore.New(1, 1, 3, 0, l, make([]byte, 60001)); e != api.ErrArg {
		t.Errorf("a long state: %d", e)
	}
	state := []byte("state")
	r, e := raftcore.New(255, 5, 3, 5, l, state)
	is(t, "New", e, api.OK)
	state[0] = 'x'
	l.Add(9, api.EntryNone, nil)
	is(t, "State", string(r.State()), "state")
	last, _ := r.Log().Last()
	is(t, "Last", last, 1)
	is(t, "New", []int{r.Term(), r.Vote(), r.Role(), r.Leader()}, []int{3, 5, raftcore.Follower, 0})
	r.State()[0] = 'y'
	r.Log().Add(9, api.EntryNone, nil)
	last, _ = r.Log().Last()
	is(t, "Last", last, 1)
	is(t, "State", string(r.State()), "state")
	_, e = raftcore.New(1, 1, 3, 0, newLog(1), make([]byte, 60000))
	is(t, "New", e, api.OK)
}

// The first example, and P11.2.
func TestThree(t *testing.T) {
	var r [4]*raftcore.Raft
	for i := 1; i <= 3; i++ {
		r[i] = raft(t, i, 0, 0, newLog(1, 2, 3))
	}
	l := r[1].Tick(1)
	sent(t, l, [5]int{2, api.RaftVote, 0, 0, 0}, [5]int{3, api.RaftVote, 0, 0, 0})
	is(t, "its state", []int{r[1].Term(), r[1].Vote(), r[1].Role()}, []int{1, 1, raftcore.Candidate})
	is(t, "the message", []int{l[0].Term, l[0].From, l[0].Group}, []int{1, 1, 7})
	l = step(t, r[2], l[0])
	sent(t, l, [5]int{1, api.RaftVoted, 1, 0, 0})
	is(t, "Vote", r[2].Vote(), 1)
	l = step(t, r[1], l[0])
	sent(t, l, [5]int{2, api.RaftAppend, 0, 0, 1}, [5]int{3, api.RaftAppend, 0, 0, 1})
	is(t, "Role", r[1].Role(), raftcore.Leader)
	l = step(t, r[2], l[0])
	sent(t, l, [5]int{1, api.RaftAppended, 1, 1, 0})
	is(t, "Leader", r[2].Leader(), 1)
	l = step(t, r[1], l[0])
	sent(t, l, [5]int{2, api.RaftAppend, 0, 1, 0}, [5]int{3, api.RaftAppend, 0, 0, 1})
	is(t, "Commit", []int{r[1].Log().Commit(), l[0].Commit}, []int{1, 1})
	sent(t, r[1].Tick(99), [5]int{2, api.RaftAppend, 0, 1, 0}, [5]int{3, api.RaftAppend, 0, 0, 1})
	step(t, r[2], l[0])
	is(t, "Commit", r[2].Log().Commit(), 1)
}

// P11.2
func TestTick(t *testing.T) {
	r := raft(t, 1, 4, 2, newLog(1, 2, 3))
	sent(t, r.Tick(3))
	sent(t, r.Tick(3))
	sent(t, r.Tick(3), [5]int{2, api.RaftVote, 0, 0, 0}, [5]int{3, api.RaftVote, 0, 0, 0})
	is(t, "Term", r.Term(), 5)
	sent(t, r.Tick(3))
	sent(t, r.Tick(3))
	sent(t, r.Tick(3), [5]int{2, api.RaftVote, 0, 0, 0}, [5]int{3, api.RaftVote, 0, 0, 0})
	is(t, "Term", r.Term(), 6)
	out := raft(t, 4, 4, 2, newLog(1, 2, 3))
	sent(t, out.Tick(1))
	is(t, "no member", []int{out.Term(), out.Role()}, []int{4, raftcore.Follower})
	end := raft(t, 1, api.MaxWall, 0, newLog(1))
	sent(t, end.Tick(1))
	is(t, "the last term", []int{end.Term(), end.Vote(), end.Role()}, []int{api.MaxWall, 0, raftcore.Follower})
	one := raft(t, 1, 0, 0, newLog(1))
	sent(t, one.Tick(1))
	is(t, "the only one", []int{one.Term(), one.Role(), one.Log().Commit()}, []int{1, raftcore.Leader, 1})
	i, l, e := one.Propose([]byte("x"))
	sent(t, l)
	is(t, "Propose", []int{i, int(e), one.Log().Commit()}, []int{2, 0, 2})
	r = raft(t, 1, 3, 0, loaded(t, raftlog.Point{Members: []int{1, 2}}, []int{1, 2}, 1))
	l = r.Tick(0)
	is(t, "the last entry", []int{l[0].Index, l[0].LogTerm}, []int{2, 2})
}

// P11.3: what is no message to this node, and earlier and later terms.
func TestTerms(t *testing.T) {
	r := leader(t, newLog(1, 2, 3), 4)
	for _, m := range []api.RaftMsg{{}, msg(api.RaftVote, 2, 9, func(m *api.RaftMsg) { m.Group = 8 }), msg(api.RaftVote, 2, 9, func(m *api.RaftMsg) { m.To = 2 }), msg(api.RaftVote, 2, 9, func(m *api.RaftMsg) { m.OK = true })} {
		if l, e := r.Step(m); l != nil || e != api.ErrArg || r.Term() != 5 {
			t.Errorf("%v: %d", m, e)
		}
	}
	sent(t, step(t, r, msg(api.RaftVote, 2, 4, func(m *api.RaftMsg) { m.Index, m.LogTerm = 99, 99 })), [5]int{2, api.RaftVoted, 0, 0, 0})
	l := step(t, r, msg(api.RaftAppend, 2, 4, nil))
	sent(t, l, [5]int{2, api.RaftAppended, 0, 0, 0})
	is(t, "Term", l[0].Term, 5)
	sent(t, step(t, r, msg(api.RaftSnap, 2, 4, func(m *api.RaftMsg) { m.Index, m.LogTerm, m.Members = 9, 3, []int{1} })), [5]int{2, api.RaftAppended, 0, 0, 0})
	sent(t, step(t, r, msg(api.RaftVoted, 2, 4, nil)))
	sent(t, step(t, r, appended(2, 4, true, 1)))
	is(t, "Role", r.Role(), raftcore.Leader)
	sent(t, step(t, r, msg(api.RaftAppend, 2, 5, nil)))
	sent(t, step(t, r, msg(api.RaftSnap, 2, 5, func(m *api.RaftMsg) { m.Index, m.LogTerm, m.Members = 9, 3, []int{1} })))
	is(t, "still", []int{r.Role(), r.Leader()}, []int{raftcore.Leader, 1})
	sent(t, step(t, r, msg(api.RaftAppended, 2, 8, nil)))
	is(t, "a later term", []int{r.Term(), r.Vote(), r.Role(), r.Leader()}, []int{8, 0, raftcore.Follower, 0})
}

// P11.3: votes.
func TestVotes(t *testing.T) {
	vote := func(from, term, index, logTerm int) api.RaftMsg {
		return msg(api.RaftVote, from, term, func(m *api.RaftMsg) { m.Index, m.LogTerm = index, logTerm })
	}
	r := raft(t, 1, 3, 0, loaded(t, raftlog.Point{Members: []int{1, 2, 3}}, []int{1, 2}, 0))
	sent(t, step(t, r, vote(2, 3, 1, 2)), [5]int{2, api.RaftVoted, 0, 0, 0})
	sent(t, step(t, r, vote(2, 3, 9, 1)), [5]int{2, api.RaftVoted, 0, 0, 0})
	is(t, "Vote", r.Vote(), 0)
	r.Tick(3)
	r.Tick(3)
	sent(t, step(t, r, vote(2, 3, 2, 2)), [5]int{2, api.RaftVoted, 1, 0, 0})
	sent(t, r.Tick(3))
	sent(t, r.Tick(3))
	sent(t, step(t, r, vote(3, 3, 9, 9)), [5]int{3, api.RaftVoted, 0, 0, 0})
	is(t, "Vote", r.Vote(), 2)
	sent(t, step(t, r, vote(2, 3, 2, 2)), [5]int{2, api.RaftVoted, 1, 0, 0})
	sent(t, step(t, r, vote(3, 4, 1, 1)), [5]int{3, api.RaftVoted, 0, 0, 0})
	is(t, "Vote", []int{r.Term(), r.Vote()}, []int{4, 0})
	five := raft(t, 1, 0, 0, newLog(1, 2, 3, 4, 5))
	five.Tick(1)
	yes := func(from int, ok bool) {
		step(t, five, msg(api.RaftVoted, from, 1, func(m *api.RaftMsg) { m.OK = ok }))
	}
	yes(2, true)
	yes(2, true)
	yes(3, false)
	is(t, "Role", five.Role(), raftcore.Candidate)
	yes(4, true)
	is(t, "Role", five.Role(), raftcore.Leader)
	out := raft(t, 1, 0, 0, newLog(1, 2))
	out.Tick(1)
	step(t, out, msg(api.RaftVoted, 5, 1, func(m *api.RaftMsg) { m.OK = true }))
	is(t, "a vote of no member", out.Role(), raftcore.Candidate)
	cand := raft(t, 1, 0, 0, newLog(1, 2, 3))
	cand.Tick(1)
	sent(t, step(t, cand, msg(api.RaftAppend, 2, 1, nil)), [5]int{2, api.RaftAppended, 1, 0, 0})
	is(t, "another one leads", []int{cand.Role(), cand.Leader()}, []int{raftcore.Follower, 2})
	step(t, cand, msg(api.RaftVoted, 3, 1, func(m *api.RaftMsg) { m.OK = true }))
	is(t, "too late", cand.Role(), raftcore.Follower)
}

// P11.3: what a follower does with entries and states.
func TestAppendAndSnap(t *testing.T) {
	r := raft(t, 1, 3, 0, loaded(t, raftlog.Point{Members: []int{1, 2, 3}}, []int{1, 2, 2}, 1))
	app := func(index, logTerm, commit int, terms ...int) []api.RaftMsg {
		return step(t, r, msg(api.RaftAppend, 2, 3, func(m *api.RaftMsg) {
			m.Index, m.LogTerm, m.Commit = index, logTerm, commit
			for i, term := range terms {
				m.Entries = append(m.Entries, api.LogEntry{Index: index + 1 + i, Term: term, Kind: api.EntryNone})
			}
		}))
	}
	r.Tick(2)
	sent(t, app(9, 3, 9), [5]int{2, api.RaftAppended, 0, 3, 0})
	is(t, "Leader", []int{r.Leader(), r.Log().Commit()}, []int{2, 1})
	sent(t, r.Tick(2))
	sent(t, app(2, 2, 9, 3), [5]int{2, api.RaftAppended, 1, 3, 0})
	last, lastTerm := r.Log().Last()
	is(t, "Last", []int{last, lastTerm, r.Log().Commit()}, []int{3, 3, 3})
	sent(t, app(2, 2, 9, 2))
	sent(t, app(3, 3, 4, 3, 3), [5]int{2, api.RaftAppended, 1, 5, 0})
	is(t, "Commit", r.Log().Commit(), 4)
	snap := func(index, logTerm int, members []int) []api.RaftMsg {
		return step(t, r, msg(api.RaftSnap, 3, 3, func(m *api.RaftMsg) {
			m.Index, m.LogTerm, m.Members, m.Data = index, logTerm, members, []byte("abc")
		}))
	}
	sent(t, snap(4, 3, []int{1, 2}), [5]int{3, api.RaftAppended, 1, 4, 0})
	is(t, "State", len(r.State()), 0)
	is(t, "Leader", r.Leader(), 3)
	sent(t, snap(9, 0, []int{1, 2}))
	is(t, "Start", r.Log().Start().Index, 0)
	sent(t, snap(9, 2, []int{1, 2}), [5]int{3, api.RaftAppended, 1, 9, 0})
	is(t, "Start", r.Log().Start(), raftlog.Point{Index: 9, Term: 2, Members: []int{1, 2}})
	is(t, "State", string(r.State()), "abc")
}

// P11.3: what a leader does with answers.
func TestAppended(t *testing.T) {
	r := leader(t, loaded(t, raftlog.Point{Members: []int{1, 2, 3}}, []int{1, 1, 1, 1}, 0), 1)
	sent(t, step(t, r, appended(2, 2, false, 4)))
	sent(t, step(t, r, appended(2, 2, false, 2)), [5]int{2, api.RaftAppend, 0, 2, 3})
	sent(t, step(t, r, appended(2, 2, false, 2)))
	sent(t, step(t, r, appended(2, 2, true, 99)))
	sent(t, step(t, r, appended(2, 2, true, 3)), [5]int{2, api.RaftAppend, 0, 3, 2})
	is(t, "an entry of an earlier term is not counted", r.Log().Commit(), 0)
	one := leader(t, loaded(t, raftlog.Point{Members: []int{1, 2, 3}}, []int{1, 1, 1, 1}, 0), 1)
	sent(t, step(t, one, appended(3, 2, true, 4)), [5]int{3, api.RaftAppend, 0, 4, 1})
	sent(t, step(t, r, appended(2, 2, false, 0)), [5]int{2, api.RaftAppend, 0, 3, 2})
	sent(t, step(t, r, appended(2, 2, true, 1)), [5]int{2, api.RaftAppend, 0, 3, 2})
	sent(t, step(t, r, appended(2, 2, true, 5)), [5]int{2, api.RaftAppend, 0, 5, 0}, [5]int{3, api.RaftAppend, 0, 4, 1})
	is(t, "Commit", r.Log().Commit(), 5)
	sent(t, step(t, r, appended(2, 2, true, 5)))
	sent(t, step(t, r, appended(3, 2, false, 1)), [5]int{3, api.RaftAppend, 0, 1, 4})
	is(t, "Compact", r.Compact(3, []byte("st")), api.OK)
	l := step(t, r, appended(3, 2, false, 0))
	sent(t, l, [5]int{3, api.RaftSnap, 0, 3, 0})
	is(t, "the state", []any{l[0].LogTerm, l[0].Members, string(l[0].Data)}, []any{1, []int{1, 2, 3}, "st"})
	sent(t, step(t, r, appended(3, 2, true, 3)), [5]int{3, api.RaftAppend, 0, 3, 2})
	big := leader(t, newLog(1, 2), 0)
	for range 70 {
		big.Propose(nil)
	}
	l = step(t, big, appended(2, 1, true, 1))
	sent(t, l, [5]int{2, api.RaftAppend, 0, 1, 64})
}

// P11.4
func TestProposeAndChange(t *testing.T) {
	r := raft(t, 1, 0, 0, newLog(1, 2, 3))
	_, l, e := r.Propose(nil)
	is(t, "Propose", []int{len(l), int(e)}, []int{0, int(api.ErrRaftLeader)})
	_, _, e = r.Change(nil)
	is(t, "Change", e, api.ErrRaftLeader)
	r = leader(t, newLog(1, 2, 3), 0)
	_, _, e = r.Propose(make([]byte, 12001))
	is(t, "Propose", e, api.ErrArg)
	_, _, e = r.Change([]int{1, 2})
	is(t, "the commit index is of no own term", e, api.ErrRaftChange)
	one := leader(t, newLog(1), 0)
	_, _, e = one.Propose(make([]byte, 12000))
	is(t, "Propose", e, api.OK)
	full := leader(t, loaded(t, raftlog.Point{Index: api.MaxWall, Term: 1, Members: []int{1}}, nil, api.MaxWall), 1)
	_, l, e = full.Propose(nil)
	is(t, "a log that is at its end", []int{len(l), int(e)}, []int{0, int(api.ErrArg)})
	is(t, "the roles", []int{raftcore.Follower, raftcore.Candidate, raftcore.Leader}, []int{1, 2, 3})
	data := []byte("x")
	i, l, e := r.Propose(data)
	data[0] = 'y'
	is(t, "Propose", []int{i, int(e)}, []int{2, 0})
	sent(t, l, [5]int{2, api.RaftAppend, 0, 0, 2}, [5]int{3, api.RaftAppend, 0, 0, 2})
	x, _ := r.Log().At(2)
	is(t, "At", string(x.Data), "x")
	step(t, r, appended(2, 1, true, 2))
	for _, c := range [][]int{nil, {0}, {2, 1}, {1, 1}, {1, 2, 2, 3}, {1, 6}} {
		_, _, e = r.Change(c)
		is(t, "Change", e, api.ErrArg)
	}
	for _, c := range [][]int{{1, 2, 3}, {1}, {1, 2, 3, 4, 5}, {1, 2, 4}, {4, 5}} {
		_, _, e = r.Change(c)
		is(t, "Change", e, api.ErrRaftChange)
	}
	i, l, e = r.Change([]int{1, 2, 3, 4})
	is(t, "Change", []int{i, int(e)}, []int{3, 0})
	sent(t, l, [5]int{2, api.RaftAppend, 0, 2, 1}, [5]int{3, api.RaftAppend, 0, 0, 3}, [5]int{4, api.RaftAppend, 0, 0, 3})
	_, _, e = r.Change([]int{1, 2, 3})
	is(t, "Change", e, api.ErrRaftChange)
	step(t, r, appended(2, 1, true, 3))
	is(t, "two of four", r.Log().Commit(), 2)
	step(t, r, appended(4, 1, true, 3))
	is(t, "three of four", r.Log().Commit(), 3)
	i, _, e = r.Change([]int{2, 3, 4})
	is(t, "Change", []int{i, int(e)}, []int{4, 0})
	is(t, "Role", r.Role(), raftcore.Leader)
	step(t, r, appended(2, 1, true, 4))
	sent(t, step(t, r, appended(4, 1, true, 4)))
	is(t, "it is no member", []int{r.Role(), r.Leader(), r.Log().Commit()}, []int{raftcore.Follower, 0, 4})
}

// P11.5
func TestCompact(t *testing.T) {
	r := leader(t, newLog(1), 0)
	r.Propose(nil)
	is(t, "Compact", r.Compact(9, make([]byte, 60001)), api.ErrArg)
	is(t, "Compact", r.Compact(3, nil), api.ErrLogIndex)
	state := []byte("a")
	is(t, "Compact", r.Compact(2, state), api.OK)
	state[0] = 'x'
	is(t, "State", string(r.State()), "a")
	is(t, "Compact", r.Compact(1, nil), api.ErrLogIndex)
	is(t, "Compact", r.Compact(2, make([]byte, 60000)), api.OK)
	is(t, "State", len(r.State()), 60000)
	is(t, "Start", r.Log().Start().Index, 2)
}

// P11.7
func TestTheorem(t *testing.T) {
	total := 0
	for seed := range int64(40) {
		total += simulate(t, rand.New(rand.NewSource(seed)))
	}
	if total < 1000 {
		t.Errorf("only %d committed", total)
	}
}

func simulate(t *testing.T, r *rand.Rand) int {
	var nodes [6]*raftcore.Raft
	for i := 1; i <= 5; i++ {
		nodes[i] = raft(t, i, 0, 0, newLog(1, 2, 3))
	}
	var flight []api.RaftMsg
	leaders := map[int]int{}
	votes := map[[2]int]int{}
	committed := map[int]api.LogEntry{}
	add := func(l []api.RaftMsg) { flight = append(flight, l...) }
	for range 20000 {
		i := 1 + r.Intn(5)
		n := nodes[i]
		term := n.Term()
		switch r.Intn(30) {
		case 0:
			add(n.Tick(3 + 4*i))
		case 1:
			_, l, _ := n.Propose([]byte{byte(r.Intn(256))})
			add(l)
		case 2:
			var members []int
			for m := 1; m <= 5; m++ {
				if r.Intn(3) > 0 {
					members = append(members, m)
				}
			}
			_, l, _ := n.Change(members)
			add(l)
		case 3:
			if r.Intn(4) == 0 {
				l := n.Log()
				start := l.Start().Index
				if c := l.Commit(); c > start {
					n.Compact(start+1+r.Intn(c-start), []byte{byte(c)})
				}
			}
		case 4:
			if r.Intn(4) == 0 {
				again, e := raftcore.New(7, i, n.Term(), n.Vote(), n.Log(), n.State())
				if e != api.OK {
					t.Fatalf("New: %d", e)
				}
				nodes[i] = again
			}
		default:
			if len(flight) == 0 {
				continue
			}
			k := r.Intn(min(len(flight), 12))
			m := flight[k]
			if r.Intn(10) > 0 {
				flight = slices.Delete(flight, k, k+1)
			}
			if r.Intn(10) == 0 {
				continue
			}
			i, n = m.To, nodes[m.To]
			term = n.Term()
			add(step(t, n, m))
		}
		n = nodes[i]
		if n.Term() < term {
			t.Fatal("the term falls")
		}
		if n.Role() == raftcore.Leader {
			if l, ok := leaders[n.Term()]; ok && l != i {
				t.Fatalf("two leaders of the term %d", n.Term())
			}
			leaders[n.Term()] = i
		}
		if n.Vote() != 0 {
			key := [2]int{i, n.Term()}
			if v, ok := votes[key]; ok && v != n.Vote() {
				t.Fatal("two votes")
			}
			votes[key] = n.Vote()
		}
		l := n.Log()
		for k := l.Start().Index + 1; k <= l.Commit(); k++ {
			e, _ := l.At(k)
			if old, ok := committed[k]; ok && (old.Term != e.Term || old.Kind != e.Kind || !bytes.Equal(old.Data, e.Data)) {
				t.Fatalf("at %d: %v, %v", k, old, e)
			}
			committed[k] = e
		}
	}
	return len(committed)
}
