package multiraft

import (
	"bytes"
	"slices"

	"cormorant/api"
	"cormorant/codec"
	"cormorant/lsm"
	"cormorant/raftcore"
	"cormorant/raftlog"
)

// The store's keys are the group, a kind, and what the kind needs. Together they are short enough for the longest key of data.
const (
	kindData    = 'd' // the key
	kindEntry   = 'e' // the index
	kindHead    = 'h' // all that is short
	kindState   = 's'
	prefixBytes = 2
	portion     = 200 // deletions of one Write
)

func storeKey(id int, kind byte) []byte { return []byte{byte(id), kind} }

func dataKey(id int, key []byte) []byte { return append(storeKey(id, kindData), key...) }

func entryKey(id, index int) []byte {
	return append(storeKey(id, kindEntry), codec.KeyInt(int64(index))...)
}

// save writes what has changed of a group, and these changes, at once.
func (m *Multi) save(id int, g *group, withState bool, ops []api.Op) api.Errno {
	log := g.raft.Log()
	start := log.Start().Index
	last, _ := log.Last()
	fresh := g.freshEntries(log)
	for _, x := range fresh {
		ops = append(ops, api.Op{Key: entryKey(id, x.Index), Value: entryBytes(x)})
	}
	if withState || start != g.start {
		ops = append(ops, api.Op{Key: storeKey(id, kindState), Value: g.raft.State()})
	}
	head := g.headBytes(log)
	if !bytes.Equal(head, g.head) {
		ops = append(ops, api.Op{Key: storeKey(id, kindHead), Value: head})
	}
	if len(ops) == 0 {
		return api.OK
	}
	if e := m.write(ops); e != api.OK {
		return e
	}
	g.head, g.start, g.commit = head, start, log.Commit()
	for _, x := range fresh {
		g.stored[x.Index] = x.Term
	}
	if len(g.stored) == last-start {
		return api.OK
	}
	return m.clean(id, g, start, last)
}

func (m *Multi) write(ops []api.Op) api.Errno {
	e := m.store.Write(ops)
	if e != api.OK {
		m.sick = e
	}
	return e
}

// freshEntries are those of the log that are not stored: from the first one of another term on all are others.
func (g *group) freshEntries(log *raftlog.Log) []api.LogEntry {
	last, _ := log.Last()
	for i := max(log.Start().Index, g.commit) + 1; i <= last; i++ {
		if term, _ := log.Term(i); g.stored[i] != term {
			return log.Slice(i, last-i+1)
		}
	}
	return nil
}

// clean takes away the entries that are not the log's any more.
func (m *Multi) clean(id int, g *group, start, last int) api.Errno {
	var gone []int
	for i := range g.stored {
		if i <= start || i > last {
			gone = append(gone, i)
		}
	}
	slices.Sort(gone)
	for part := range slices.Chunk(gone, portion) {
		var ops []api.Op
		for _, i := range part {
			delete(g.stored, i)
			ops = append(ops, api.Op{Del: true, Key: entryKey(id, i)})
		}
		if e := m.write(ops); e != api.OK {
			return e
		}
	}
	return api.OK
}

func (g *group) headBytes(log *raftlog.Log) []byte {
	p := log.Start()
	last, _ := log.Last()
	l := []int{g.raft.Term(), g.raft.Vote(), g.applied, p.Index, p.Term, last, log.Commit()}
	var b []byte
	for _, n := range append(l, p.Members...) {
		b = append(b, codec.Number(uint64(n))...)
	}
	return b
}

const (
	headTerm = iota
	headVote
	headApplied
	headStart
	headStartTerm
	headLast
	headCommit
	headMembers
)

func entryBytes(x api.LogEntry) []byte {
	b := append(codec.Number(uint64(x.Term)), byte(x.Kind))
	return append(b, x.Data...)
}

func takeEntry(index int, b []byte) (api.LogEntry, bool) {
	term, n, e := codec.TakeNumber(b)
	if e != api.OK || term > api.MaxWall || n == len(b) {
		return api.LogEntry{}, false
	}
	return api.LogEntry{Index: index, Term: int(term), Kind: int(b[n]), Data: b[n+1:]}, true
}

// found is what the store has of a group.
type found struct {
	head, state []byte
	entries     map[int][]byte
}

// Open is a node as it was when it last wrote to its store.
func Open(s *lsm.Store, id int) (*Multi, api.Errno) {
	if s == nil || id < 1 || id > api.MaxNodes {
		return nil, api.ErrArg
	}
	l, e := s.Scan(api.Span{})
	if e != api.OK {
		return nil, e
	}
	m := &Multi{store: s, id: id, groups: map[int]*group{}}
	for number, f := range sortOut(l) {
		g, ok := m.load(number, f)
		if !ok {
			return nil, api.ErrGroupBytes
		}
		m.groups[number] = g
	}
	return m, api.OK
}

// sortOut lays what the store has out by groups.
func sortOut(l []api.KV) map[int]*found {
	all := map[int]*found{}
	for _, kv := range l {
		if len(kv.Key) < prefixBytes || kv.Key[0] == 0 {
			continue
		}
		id := int(kv.Key[0])
		if all[id] == nil {
			all[id] = &found{entries: map[int][]byte{}}
		}
		switch kv.Key[1] {
		case kindHead:
			all[id].head = kv.Value
		case kindState:
			all[id].state = kv.Value
		case kindEntry:
			if index, n, e := codec.TakeKeyInt(kv.Key[prefixBytes:]); e == api.OK && prefixBytes+n == len(kv.Key) {
				all[id].entries[int(index)] = kv.Value
			}
		}
	}
	return all
}

// load makes a group of what the store has of it.
func (m *Multi) load(id int, f *found) (*group, bool) {
	head, ok := takeHead(f.head)
	if !ok {
		return nil, false
	}
	g := &group{applied: head[headApplied], start: head[headStart], commit: head[headCommit], head: f.head, stored: map[int]int{}}
	for i := range f.entries {
		g.stored[i] = 0
	}
	var entries []api.LogEntry
	for i := g.start + 1; i <= head[headLast]; i++ {
		x, ok := takeEntry(i, f.entries[i])
		if !ok {
			return nil, false
		}
		entries = append(entries, x)
		g.stored[i] = x.Term
	}
	p := raftlog.Point{Index: g.start, Term: head[headStartTerm], Members: head[headMembers:]}
	log, e := raftlog.Load(p, entries, g.commit)
	if e != api.OK || g.applied > g.commit {
		return nil, false
	}
	g.raft, e = raftcore.New(id, m.id, head[headTerm], head[headVote], log, f.state)
	return g, e == api.OK
}

func takeHead(b []byte) ([]int, bool) {
	var l []int
	for len(b) > 0 {
		n, k, e := codec.TakeNumber(b)
		if e != api.OK || n > api.MaxWall {
			return nil, false
		}
		l = append(l, int(n))
		b = b[k:]
	}
	return l, len(l) > headMembers
}
