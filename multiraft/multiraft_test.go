package multiraft_test

import (
	"bytes"
	"fmt"
	"math/rand"
	"reflect"
	"slices"
	"strings"
	"testing"

	"cormorant/api"
	"cormorant/lsm"
	"cormorant/multiraft"
	"cormorant/raftcore"
	"cormorant/raftlog"
	"cormorant/vdisk"
)

var config = api.StoreConfig{MemBytes: 2000, BlockBytes: 512, PerKey: 10, Fanout: 2, Heights: []int{1, 2, 1, 3}}

func is(t *testing.T, what string, got, want any) {
	t.Helper()
	if !reflect.DeepEqual(got, want) {
		t.Errorf("%s: %v, want %v", what, got, want)
	}
}

func disk() *vdisk.Disk {
	d, _ := vdisk.New(1 << 24)
	return d
}

func store(t *testing.T, d *vdisk.Disk) *lsm.Store {
	t.Helper()
	s, _, e := lsm.Open(d, config)
	if e != api.OK {
		t.Fatalf("lsm.Open: %d", e)
	}
	return s
}

func open(t *testing.T, d *vdisk.Disk, id int) *multiraft.Multi {
	t.Helper()
	m, e := multiraft.Open(store(t, d), id)
	if e != api.OK {
		t.Fatalf("Open: %d", e)
	}
	return m
}

func put(key, value string) api.Op { return api.Op{Key: []byte(key), Value: []byte(value)} }

func del(key string) api.Op { return api.Op{Del: true, Key: []byte(key)} }

func data(t *testing.T, m *multiraft.Multi, group int) string {
	t.Helper()
	l, e := m.Data(group)
	if e != api.OK {
		t.Fatalf("Data: %d", e)
	}
	var s []string
	for _, kv := range l {
		s = append(s, fmt.Sprintf("%s=%s", kv.Key, kv.Value))
	}
	return strings.Join(s, " ")
}

func status(t *testing.T, m *multiraft.Multi, group int) multiraft.Status {
	t.Helper()
	s, e := m.Status(group)
	if e != api.OK {
		t.Fatalf("Status: %d", e)
	}
	return s
}

// The examples.
func TestExample(t *testing.T) {
	d := disk()
	m := open(t, d, 1)
	is(t, "Create", m.Create(3, []int{1}), api.OK)
	l, e := m.Tick(3, 1)
	is(t, "Tick", []int{len(l), int(e)}, []int{0, 0})
	is(t, "Status", status(t, m, 3), multiraft.Status{Term: 1, Vote: 1, Role: raftcore.Leader, Leader: 1, Last: 1, Commit: 1, Members: []int{1}})
	x, ok, e := m.Next(3)
	is(t, "Next", []any{x.Index, x.Kind, ok, e}, []any{1, api.EntryNone, true, api.OK})
	is(t, "Done", m.Done(3, 1, nil), api.OK)
	i, l, e := m.Propose(3, []byte("x"))
	is(t, "Propose", []int{i, len(l), int(e)}, []int{2, 0, 0})
	x, ok, _ = m.Next(3)
	is(t, "Next", []any{x.Index, string(x.Data), ok}, []any{2, "x", true})
	is(t, "Done", m.Done(3, 2, []api.Op{put("a", "1")}), api.OK)
	is(t, "Data", data(t, m, 3), "a=1")
	is(t, "Create", m.Create(3, []int{1, 2}), api.ErrGroupThere)
	is(t, "Done", m.Done(3, 2, nil), api.ErrLogIndex)
	_, e = m.Step(api.RaftMsg{Group: 4})
	is(t, "Step", e, api.ErrGroupNone)
	_, e = m.Step(api.RaftMsg{Group: 3})
	is(t, "Step", e, api.ErrArg)
	m = open(t, d, 1)
	is(t, "Status", status(t, m, 3), multiraft.Status{Term: 1, Vote: 1, Role: raftcore.Follower, Last: 2, Commit: 2, Applied: 2, Members: []int{1}})
	is(t, "Data", data(t, m, 3), "a=1")
}

// P12.1
func TestOpenCreatePlant(t *testing.T) {
	d := disk()
	for _, id := range []int{0, 6, -1} {
		if m, e := multiraft.Open(store(t, d), id); m != nil || e != api.ErrArg {
			t.Errorf("Open(%d): %d", id, e)
		}
	}
	open(t, disk(), 5)
	s := store(t, d)
	s.Close()
	if m, e := multiraft.Open(s, 1); m != nil || e != api.ErrStoreClosed {
		t.Errorf("Open: %d", e)
	}
	m := open(t, d, 2)
	for _, g := range []int{0, 256, -1} {
		is(t, "Create", m.Create(g, []int{1}), api.ErrArg)
		is(t, "Plant", m.Plant(g, []int{1}, nil), api.ErrArg)
	}
	for _, l := range [][]int{nil, {0}, {2, 1}, {6}} {
		is(t, "Create", m.Create(1, l), api.ErrArg)
		is(t, "Plant", m.Plant(1, l, nil), api.ErrArg)
	}
	is(t, "Plant", m.Plant(1, []int{1}, make([]byte, 60001)), api.ErrArg)
	is(t, "Create", m.Create(255, []int{1, 2, 3}), api.OK)
	is(t, "Plant", m.Plant(7, []int{2, 4}, []byte("state")), api.OK)
	is(t, "Plant", m.Plant(255, []int{2}, nil), api.ErrGroupThere)
	is(t, "Create", m.Create(7, []int{2}), api.ErrGroupThere)
	is(t, "Create", m.Create(7, nil), api.ErrArg)
	is(t, "Plant", m.Plant(8, []int{2}, make([]byte, 60000)), api.OK)
	for range 2 {
		is(t, "Groups", m.Groups(), []int{7, 8, 255})
		is(t, "Status", status(t, m, 255), multiraft.Status{Role: raftcore.Follower, Members: []int{1, 2, 3}})
		is(t, "Status", status(t, m, 7), multiraft.Status{Term: 1, Role: raftcore.Follower, Start: 1, Last: 1, Commit: 1, Members: []int{2, 4}})
		b, ok, e := m.Behind(7)
		is(t, "Behind", []any{string(b), ok, e}, []any{"state", true, api.OK})
		b, ok, e = m.Behind(255)
		is(t, "Behind", []any{len(b), ok, e}, []any{0, false, api.OK})
		log, state, e := m.Log(7)
		is(t, "Log", []any{log.Start(), string(state), e}, []any{raftlog.Point{Index: 1, Term: 1, Members: []int{2, 4}}, "state", api.OK})
		m = open(t, d, 2)
	}
}

// P12.2
func TestNoGroup(t *testing.T) {
	m := open(t, disk(), 1)
	m.Create(1, []int{1})
	check := func(what string, e api.Errno) {
		t.Helper()
		is(t, what, e, api.ErrGroupNone)
	}
	_, e := m.Status(2)
	check("Status", e)
	_, e = m.Data(2)
	check("Data", e)
	_, _, e = m.Log(2)
	check("Log", e)
	_, e = m.Tick(2, 1)
	check("Tick", e)
	_, e = m.Step(api.RaftMsg{})
	check("Step", e)
	_, _, e = m.Propose(2, make([]byte, 12001))
	check("Propose", e)
	_, _, e = m.Change(2, nil)
	check("Change", e)
	_, _, e = m.Next(2)
	check("Next", e)
	check("Done", m.Done(2, 1, make([]api.Op, 999)))
	_, _, e = m.Behind(2)
	check("Behind", e)
	check("Install", m.Install(2, make([]api.Op, 999)))
	check("Compact", m.Compact(2, nil))
}

// P12.3
func TestCalls(t *testing.T) {
	d := disk()
	m := open(t, d, 1)
	m.Create(9, []int{1, 2, 3})
	_, _, e := m.Propose(9, nil)
	is(t, "Propose", e, api.ErrRaftLeader)
	_, _, e = m.Change(9, nil)
	is(t, "Change", e, api.ErrRaftLeader)
	l, e := m.Tick(9, 1)
	is(t, "Tick", []any{len(l), l[0].Kind, l[1].To, e}, []any{2, api.RaftVote, 3, api.OK})
	m = open(t, d, 1)
	is(t, "Status", status(t, m, 9), multiraft.Status{Term: 1, Vote: 1, Role: raftcore.Follower, Members: []int{1, 2, 3}})
	m.Tick(9, 1)
	l, e = m.Step(api.RaftMsg{Kind: api.RaftVoted, Group: 9, From: 3, To: 1, Term: 2, OK: true})
	is(t, "Step", []any{len(l), l[0].Kind, e}, []any{2, api.RaftAppend, api.OK})
	i, l, e := m.Propose(9, []byte("x"))
	is(t, "Propose", []any{i, len(l), e}, []any{2, 2, api.OK})
	_, _, e = m.Propose(9, make([]byte, 12001))
	is(t, "Propose", e, api.ErrArg)
	_, _, e = m.Change(9, []int{1, 2})
	is(t, "Change", e, api.ErrRaftChange)
	m.Step(api.RaftMsg{Kind: api.RaftAppended, Group: 9, From: 3, To: 1, Term: 2, OK: true, Index: 2})
	i, l, e = m.Change(9, []int{1, 3})
	is(t, "Change", []any{i, len(l), e}, []any{3, 1, api.OK})
	m = open(t, d, 1)
	is(t, "Status", status(t, m, 9), multiraft.Status{Term: 2, Vote: 1, Role: raftcore.Follower, Last: 3, Commit: 2, Members: []int{1, 3}})
	m.Step(api.RaftMsg{Kind: api.RaftVote, Group: 9, From: 3, To: 1, Term: 7, Index: 9, LogTerm: 5})
	is(t, "Vote", status(t, open(t, d, 1), 9).Vote, 3)
}

// P12.4
func TestDoneAndInstall(t *testing.T) {
	d := disk()
	m := open(t, d, 1)
	m.Create(1, []int{1})
	_, ok, _ := m.Next(1)
	is(t, "Next", ok, false)
	m.Tick(1, 1)
	m.Propose(1, []byte("x"))
	long := strings.Repeat("k", 251)
	many := make([]api.Op, 201)
	for i := range many {
		many[i] = put(fmt.Sprint("k", i), "")
	}
	big := []api.Op{}
	for i := range 8 {
		big = append(big, put(fmt.Sprint(i), strings.Repeat("v", 62499)))
	}
	for i, ops := range [][]api.Op{{put("", "")}, {put(long, "")}, {put("a", ""), del("a")}, {put("a", strings.Repeat("v", api.MaxValue+1))}, {{Del: true, Key: []byte("a"), Value: []byte("x")}}, many, append(slices.Clone(big), put("x", ""))} {
		if e := m.Done(1, 1, ops); e != api.ErrArg {
			t.Errorf("Done %d: %d", i, e)
		}
		if e := m.Install(1, ops); e != api.ErrArg {
			t.Errorf("Install %d: %d", i, e)
		}
	}
	is(t, "Done", m.Done(1, 2, nil), api.ErrLogIndex)
	is(t, "Done", m.Done(1, 0, nil), api.ErrLogIndex)
	is(t, "Install", m.Install(1, nil), api.ErrLogIndex)
	is(t, "Done", m.Done(1, 1, big), api.OK)
	is(t, "Done", m.Done(1, 2, many[:200]), api.OK)
	_, ok, _ = m.Next(1)
	is(t, "Next", ok, false)
	is(t, "Done", m.Done(1, 3, nil), api.ErrLogIndex)
	l, _ := m.Data(1)
	is(t, "Data", len(l), 208)
	m.Propose(1, nil)
	ops := []api.Op{put(long[1:], "v"), del("k7"), del("none")}
	is(t, "Done", m.Done(1, 3, ops), api.OK)
	ops[0].Key[0], ops[0].Value[0] = 'z', 'z'
	l, _ = m.Data(1)
	is(t, "Data", []any{len(l), string(l[207].Key), string(l[207].Value)}, []any{208, long[1:], "v"})
	m.Propose(1, nil)
	is(t, "Done", m.Done(1, 4, []api.Op{put("long", strings.Repeat("v", api.MaxValue))}), api.OK)
	m.Plant(2, []int{1}, []byte("st"))
	_, ok, _ = m.Next(2)
	is(t, "Next", ok, false)
	is(t, "Done", m.Done(2, 1, nil), api.ErrLogIndex)
	is(t, "Done", m.Done(2, 2, nil), api.ErrLogIndex)
	is(t, "Compact", m.Compact(2, nil), api.ErrLogIndex)
	is(t, "Install", m.Install(2, []api.Op{put("q", "1")}), api.OK)
	is(t, "Install", m.Install(2, nil), api.ErrLogIndex)
	_, ok, _ = m.Behind(2)
	is(t, "Behind", ok, false)
	is(t, "Applied", status(t, m, 2).Applied, 1)
	is(t, "Data", data(t, open(t, d, 1), 2), "q=1")
	m.Tick(2, 1)
	x, ok, _ := m.Next(2)
	is(t, "Next", []any{x.Index, ok}, []any{2, true})
	l2, _ := m.Data(2)
	l2[0].Value[0] = 'z'
	is(t, "Data", data(t, m, 2), "q=1")
}

// P12.5, and a state that a leader sends.
func TestCompact(t *testing.T) {
	d := disk()
	m := open(t, d, 1)
	m.Create(1, []int{1})
	m.Tick(1, 1)
	for range 450 {
		m.Propose(1, []byte("data"))
	}
	for i := range 430 {
		m.Done(1, i+1, nil)
	}
	is(t, "Compact", m.Compact(1, make([]byte, 60001)), api.ErrArg)
	is(t, "Compact", m.Compact(1, []byte("s")), api.OK)
	is(t, "Compact", m.Compact(1, []byte("t")), api.OK)
	for range 2 {
		s := status(t, m, 1)
		is(t, "Status", []int{s.Start, s.Last, s.Commit, s.Applied}, []int{430, 451, 451, 430})
		_, state, _ := m.Log(1)
		is(t, "Log", string(state), "t")
		_, ok, _ := m.Behind(1)
		is(t, "Behind", ok, false)
		m = open(t, d, 1)
	}
	snap := api.RaftMsg{Kind: api.RaftSnap, Group: 1, From: 2, To: 1, Term: 5, Index: 600, LogTerm: 4, Members: []int{1, 2}, Data: []byte("new")}
	l, e := m.Step(snap)
	is(t, "Step", []any{len(l), l[0].OK, l[0].Index, e}, []any{1, true, 600, api.OK})
	is(t, "Compact", m.Compact(1, nil), api.ErrLogIndex)
	for range 2 {
		b, ok, _ := m.Behind(1)
		is(t, "Behind", []any{string(b), ok}, []any{"new", true})
		s := status(t, m, 1)
		is(t, "Status", []int{s.Start, s.Last, s.Commit, s.Applied, s.Term}, []int{600, 600, 600, 430, 5})
		m = open(t, d, 1)
	}
}

// Entries that a later leader replaces, to the last byte, though their terms come again.
func TestReplaced(t *testing.T) {
	d := disk()
	m := open(t, d, 1)
	m.Create(1, []int{1, 2, 3})
	offer := func(index, logTerm int, l ...api.LogEntry) {
		t.Helper()
		if _, e := m.Step(api.RaftMsg{Kind: api.RaftAppend, Group: 1, From: 2, To: 1, Term: 9, Index: index, LogTerm: logTerm, Entries: l}); e != api.OK {
			t.Fatalf("Step: %d", e)
		}
		log, _, _ := m.Log(1)
		again, _, _ := open(t, d, 1).Log(1)
		is(t, "the log", again.Slice(1, 99), log.Slice(1, 99))
	}
	x := func(index, term int, s string) api.LogEntry {
		return api.LogEntry{Index: index, Term: term, Kind: api.EntryData, Data: []byte(s)}
	}
	offer(0, 0, x(1, 1, "a"), x(2, 2, "b"), x(3, 3, "c"))
	offer(1, 1, x(2, 3, "d"), x(3, 3, "e"), x(4, 3, "f"))
	offer(1, 1, x(2, 4, "g"))
	offer(1, 1, x(2, 1, "h"), x(3, 3, "i"), x(4, 3, "j"))
}

// P12.1: what is no group.
func TestDamage(t *testing.T) {
	d := disk()
	m := open(t, d, 1)
	m.Create(1, []int{1})
	m.Tick(1, 1)
	s := store(t, d)
	l, _ := s.Scan(api.Span{})
	wrong := 0
	for _, kv := range l {
		for _, op := range []api.Op{{Del: true, Key: kv.Key}, {Key: kv.Key}, {Key: kv.Key, Value: append(slices.Clone(kv.Value), 255)}, {Key: kv.Key, Value: bytes.Repeat([]byte{255}, 300)}} {
			c := d.Copy()
			s := store(t, c)
			s.Write([]api.Op{op})
			m, e := multiraft.Open(s, 1)
			if e != api.OK && (m != nil || e != api.ErrGroupBytes) {
				t.Errorf("Open: %d", e)
			}
			if e != api.OK {
				wrong++
			}
		}
	}
	if wrong == 0 {
		t.Error("all of it is a group")
	}
	c := d.Copy()
	s = store(t, c)
	for g := range 256 {
		s.Write([]api.Op{put(string([]byte{byte(g), 'h'}), "\xff\xff")})
	}
	if _, e := multiraft.Open(s, 1); e != api.ErrGroupBytes {
		t.Errorf("Open: %d", e)
	}
}

func sickCalls(t *testing.T, m *multiraft.Multi, want api.Errno) {
	t.Helper()
	is(t, "Groups", len(m.Groups()), 0)
	codes := []api.Errno{m.Create(0, nil), m.Plant(0, nil, nil), m.Done(1, 1, nil), m.Install(77, nil), m.Compact(77, nil)}
	_, e := m.Status(77)
	codes = append(codes, e)
	_, e = m.Data(1)
	codes = append(codes, e)
	_, _, e = m.Log(1)
	codes = append(codes, e)
	_, e = m.Tick(1, 1)
	codes = append(codes, e)
	_, e = m.Step(api.RaftMsg{})
	codes = append(codes, e)
	_, _, e = m.Propose(1, nil)
	codes = append(codes, e)
	_, _, e = m.Change(1, nil)
	codes = append(codes, e)
	_, _, e = m.Next(1)
	codes = append(codes, e)
	_, _, e = m.Behind(1)
	codes = append(codes, e)
	for i, c := range codes {
		if c != want {
			t.Errorf("call %d: %d, want %d", i, c, want)
		}
	}
}

func TestSick(t *testing.T) {
	d := disk()
	m := open(t, d, 1)
	m.Create(1, []int{1, 2})
	d.Arm(1, -1)
	l, e := m.Tick(1, 1)
	is(t, "Tick", []any{len(l), e}, []any{0, api.ErrDiskOff})
	sickCalls(t, m, api.ErrDiskOff)
	tight, _ := vdisk.New(30000)
	m = open(t, tight, 1)
	m.Create(1, []int{1})
	m.Tick(1, 1)
	for range 5 {
		if _, _, e = m.Propose(1, make([]byte, 9000)); e != api.OK {
			break
		}
	}
	is(t, "Propose", e, api.ErrDiskFull)
	sickCalls(t, m, api.ErrDiskFull)
	m = open(t, d2(t, d), 1)
	is(t, "Status", status(t, m, 1).Term, 0)
}

func d2(t *testing.T, d *vdisk.Disk) *vdisk.Disk {
	d.Restart(nil)
	return d
}

type whole struct {
	Status multiraft.Status
	Log    *raftlog.Log
	State  string
	Data   string
}

// picture is everything that lasts of a node.
func picture(t *testing.T, m *multiraft.Multi) map[int]whole {
	t.Helper()
	all := map[int]whole{}
	for _, g := range m.Groups() {
		s := status(t, m, g)
		s.Role, s.Leader = 0, 0
		log, state, _ := m.Log(g)
		all[g] = whole{Status: s, Log: log, State: string(state), Data: data(t, m, g)}
	}
	return all
}

func sameGroup(a, b whole) bool {
	return reflect.DeepEqual(a.Status, b.Status) && a.State == b.State && a.Data == b.Data && a.Log.Commit() == b.Log.Commit() &&
		reflect.DeepEqual(a.Log.Start(), b.Log.Start()) &&
		slices.EqualFunc(a.Log.Slice(a.Log.Start().Index+1, 9999), b.Log.Slice(b.Log.Start().Index+1, 9999), func(x, y api.LogEntry) bool {
			return x.Index == y.Index && x.Term == y.Term && x.Kind == y.Kind && bytes.Equal(x.Data, y.Data)
		})
}

// act does something at random to a group of the node 1 of three; its numbers are drawn ahead, so that it can be done twice alike.
func act(m *multiraft.Multi, seed int64) (int, api.Errno) {
	r := rand.New(rand.NewSource(seed))
	g := 1 + r.Intn(3)
	var e api.Errno
	log, _, e0 := m.Log(g)
	if e0 != api.OK {
		if r.Intn(2) == 0 {
			return g, m.Create(g, []int{1, 2, 3})
		}
		return g, m.Plant(g, []int{1, 2, 3}, []byte("planted"))
	}
	s, _ := m.Status(g)
	last, lastTerm := log.Last()
	switch r.Intn(9) {
	case 0:
		_, e = m.Tick(g, 1)
	case 1:
		_, e = m.Step(api.RaftMsg{Kind: api.RaftVoted, Group: g, From: 2, To: 1, Term: max(s.Term, 1), OK: true})
	case 2:
		_, _, e = m.Propose(g, bytes.Repeat([]byte{byte(r.Intn(256))}, r.Intn(300)))
	case 3:
		_, e = m.Step(api.RaftMsg{Kind: api.RaftAppended, Group: g, From: 3, To: 1, Term: max(s.Term, 1), OK: true, Index: last})
	case 4:
		from := last - r.Intn(3)
		term, te := log.Term(from)
		if te != api.OK {
			from, term = last, lastTerm
		}
		x := api.RaftMsg{Kind: api.RaftAppend, Group: g, From: 2, To: 1, Term: s.Term + 1, Index: from, LogTerm: term, Commit: from + r.Intn(2)}
		for i := range r.Intn(4) {
			x.Entries = append(x.Entries, api.LogEntry{Index: from + 1 + i, Term: s.Term + 1, Kind: api.EntryData, Data: []byte{byte(i)}})
		}
		_, e = m.Step(x)
	case 5:
		if r.Intn(4) == 0 {
			_, e = m.Step(api.RaftMsg{Kind: api.RaftSnap, Group: g, From: 2, To: 1, Term: s.Term + 1, Index: last + r.Intn(3), LogTerm: s.Term + 1, Members: []int{1, 2, 3}, Data: []byte("snap")})
		}
	case 6:
		if r.Intn(3) == 0 {
			e = m.Compact(g, bytes.Repeat([]byte{byte(r.Intn(256))}, r.Intn(50)))
		}
	default:
		ops := []api.Op{put(fmt.Sprint("k", r.Intn(9)), fmt.Sprint(r.Intn(99)))}
		if r.Intn(2) == 0 {
			ops = append(ops, del(fmt.Sprint("d", r.Intn(9))))
		}
		if _, ok, _ := m.Behind(g); ok {
			e = m.Install(g, ops)
		} else if x, ok, _ := m.Next(g); ok {
			e = m.Done(g, x.Index, ops)
		}
	}
	return g, e
}

// P12.6
func TestCrashes(t *testing.T) {
	r := rand.New(rand.NewSource(126))
	for range 60 {
		d := disk()
		m := open(t, d, 1)
		for range 6 {
			d.Arm(1+r.Intn(60), r.Intn(200)-20)
			for {
				before := picture(t, m)
				seed := r.Int63()
				g, e := act(m, seed)
				if e != api.ErrDiskOff {
					continue
				}
				d.Restart([]int{r.Intn(200), r.Intn(200), r.Intn(200)})
				m = open(t, d, 1)
				after := picture(t, m)
				for h, x := range before {
					if h != g && !sameGroup(after[h], x) {
						t.Fatalf("group %d has changed", h)
					}
				}
				if x, ok := before[g]; ok && after[g].Status.Term == x.Status.Term && after[g].Status.Applied < x.Status.Applied {
					t.Fatalf("group %d has gone back", g)
				}
				if x, ok := before[g]; ok && !sameGroup(after[g], x) && after[g].Status.Applied == x.Status.Applied && after[g].Data != x.Data {
					t.Fatalf("group %d: half of a call", g)
				}
				break
			}
			if !reflect.DeepEqual(m.Groups(), open(t, d, 1).Groups()) {
				t.Fatal("Groups")
			}
		}
	}
}

// P12.6: after each call, opening again finds what was there.
func TestReopened(t *testing.T) {
	r := rand.New(rand.NewSource(127))
	for range 15 {
		d := disk()
		m := open(t, d, 1)
		for range 60 {
			act(m, r.Int63())
			before := picture(t, m)
			again := picture(t, open(t, d.Copy(), 1))
			if len(before) != len(again) {
				t.Fatal("groups are missing")
			}
			for g, x := range before {
				if !sameGroup(again[g], x) {
					t.Fatalf("group %d: %v, %v", g, again[g], x)
				}
			}
		}
	}
}
