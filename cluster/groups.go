package cluster

import (
	"slices"

	"cormorant/api"
	"cormorant/codec"
	"cormorant/raftcore"
	"cormorant/replica"
	"cormorant/simnet"
)

// The kinds of messages between nodes.
const (
	kindRaft    = 1 + iota
	kindRequest // the request's number, the group, the command
	kindAnswer  // the request's number, the answer
	kindRefusal // the request's number, who may lead the group
)

// caller is who waits for an entry's answer: the entry's term, so that no other one is taken for it.
type caller struct {
	node, call, term int
}

// report is up to which index the members have said in a term that they have a leader's entries.
type report struct {
	term int
	has  [api.MaxNodes + 1]int
}

// command is what an entry asks of the machine, if it does.
func command(entry api.LogEntry) (api.Cmd, bool) {
	if entry.Kind != api.EntryData {
		return api.Cmd{}, false
	}
	cmd, e := replica.Decode(entry.Data)
	return cmd, e == api.OK
}

// post sends a message; one to the node itself does not go over the line.
func (c *Cluster) post(n *node, to, kind int, body []byte) {
	if to == n.id {
		c.local = append(c.local, letter{memory: n.memory, kind: kind, body: body})
		return
	}
	c.net.Send(api.Envelope{From: n.id, To: to, Kind: kind, Body: body})
}

// offer is what a leader's message offers to a node.
type offer struct {
	kind, group, to, term, index, last, commit int
}

// sendRaft sends messages of raft's. What a leader offers it offers once a tick: it answers each answer, so that the same offer, made again and again, would leave no room for others.
func (c *Cluster) sendRaft(n *node, l []api.RaftMsg) {
	for _, m := range l {
		if m.Kind == api.RaftAppend || m.Kind == api.RaftSnap {
			o := offer{kind: m.Kind, group: m.Group, to: m.To, term: m.Term, index: m.Index, last: m.Index + len(m.Entries), commit: m.Commit}
			if n.memory.offers[o] > 0 {
				continue
			}
			n.memory.offers[o] = 1
		}
		if b, e := simnet.Encode(m); e == api.OK {
			c.post(n, m.To, kindRaft, b)
		}
	}
}

// arrive takes a message that has come to a node that is up.
func (c *Cluster) arrive(n *node, from, kind int, body []byte) {
	switch kind {
	case kindRaft:
		if m, e := simnet.Decode(body); e == api.OK {
			c.step(n, m)
		}
	case kindRequest:
		c.takeRequest(n, from, body)
	case kindAnswer, kindRefusal:
		c.takeAnswer(n, from, kind, body)
	}
}

// step takes a message of raft's.
func (c *Cluster) step(n *node, m api.RaftMsg) {
	mem := n.memory
	if !slices.Contains(mem.multi.Groups(), m.Group) {
		if m.Kind == api.RaftAppend {
			c.sendRaft(n, []api.RaftMsg{{Kind: api.RaftAppended, Group: m.Group, From: n.id, To: m.From, Term: m.Term}})
		}
		if m.Kind != api.RaftSnap || !c.sound(n, mem.multi.Create(m.Group, m.Members)) {
			return
		}
	}
	l, e := mem.multi.Step(m)
	if !c.sound(n, e) {
		return
	}
	if m.Kind == api.RaftAppended && m.OK {
		mem.note(m)
	}
	c.sendRaft(n, l)
	c.apply(n, m.Group)
}

// note notes what a member has reported to its leader.
func (m *memory) note(x api.RaftMsg) {
	s, e := m.multi.Status(x.Group)
	if e != api.OK || s.Role != raftcore.Leader || s.Term != x.Term {
		return
	}
	r := m.reports[x.Group]
	if r.term != s.Term {
		r = report{term: s.Term}
	}
	r.has[x.From] = max(r.has[x.From], x.Index)
	m.reports[x.Group] = r
}

// apply does what is committed in a group and was not done yet.
func (c *Cluster) apply(n *node, g int) {
	m := n.memory
	if !c.install(n, g) {
		return
	}
	for m.machines[g] != nil {
		entry, ok, e := m.multi.Next(g)
		if !c.sound(n, e) || !ok {
			return
		}
		c.applyEntry(n, g, entry)
		if n.memory != m {
			return
		}
	}
}

// install takes a state that came in the place of entries; false: the node has failed.
func (c *Cluster) install(n *node, g int) bool {
	m := n.memory
	state, behind, e := m.multi.Behind(g)
	if !c.sound(n, e) {
		return false
	}
	if !behind {
		return true
	}
	x, e := replica.Restore(state)
	if e != api.OK {
		return true
	}
	if !c.sound(n, m.multi.Install(g, nil)) {
		return false
	}
	m.machines[g] = newMachine(x)
	m.survey()
	return true
}

func (c *Cluster) applyEntry(n *node, g int, entry api.LogEntry) {
	m := n.memory
	var r api.Res
	cmd, ok := command(entry)
	if ok {
		var other *replica.Machine
		r, other = m.machines[g].do(entry.Index, cmd)
		if other != nil && !c.plant(n, g, entry.Index, cmd.By, other) {
			return
		}
		if cmd.Kind == api.CmdEnd && cmd.Yes && r.Code == api.OK {
			c.committed(c.deals[cmd.Txn], r.At, true)
		}
	}
	if !c.sound(n, m.multi.Done(g, entry.Index, nil)) {
		return
	}
	if w, there := m.waiting[g][entry.Index]; there {
		delete(m.waiting[g], entry.Index)
		if w.term == entry.Term && ok {
			c.reply(n, w, r)
		}
	}
}

// do applies a command; a range is split only if the new one's state is short enough.
func (m *machine) do(index int, cmd api.Cmd) (api.Res, *replica.Machine) {
	if cmd.Kind == api.CmdSplit && !m.canSplit(cmd) {
		return api.Res{Code: api.ErrReplicaFull}, nil
	}
	return m.Apply(cmd)
}

func (m *machine) canSplit(cmd api.Cmd) bool {
	x, e := m.twin()
	if e != api.OK {
		return false
	}
	_, other := x.Apply(cmd)
	if other == nil {
		return false
	}
	_, e = other.State()
	return e == api.OK
}

// plant makes the group of a new range; false: the node has failed.
func (c *Cluster) plant(n *node, g, index, id int, other *replica.Machine) bool {
	m := n.memory
	log, _, e := m.multi.Log(g)
	if !c.sound(n, e) {
		return false
	}
	members, e := log.MembersAt(index)
	if e != api.OK {
		return true
	}
	state, e := other.State()
	if e != api.OK {
		return true
	}
	if !c.sound(n, m.multi.Plant(id, members, state)) {
		return false
	}
	m.survey()
	c.apply(n, id)
	return n.memory == m
}

// split proposes to split the first range.
func (c *Cluster) split(n *node, key []byte) {
	if n.memory == nil {
		return
	}
	s, e := n.memory.multi.Status(firstRange)
	if e != api.OK {
		return
	}
	b, e := replica.Encode(api.Cmd{Kind: api.CmdSplit, Key: key, By: s.Last + 2})
	if e == api.OK && c.propose(n, firstRange, b) > 0 {
		c.apply(n, firstRange)
	}
}

// propose adds a command to a group's log; its index, or 0.
func (c *Cluster) propose(n *node, g int, b []byte) int {
	index, l, e := n.memory.multi.Propose(g, b)
	if !c.sound(n, e) || e != api.OK {
		return 0
	}
	c.sendRaft(n, l)
	return index
}

// change proposes other members of a group.
func (c *Cluster) change(n *node, g int, members []int) {
	if n.memory == nil {
		return
	}
	_, l, e := n.memory.multi.Change(g, members)
	if !c.sound(n, e) || e != api.OK {
		return
	}
	c.sendRaft(n, l)
	c.apply(n, g)
}

// compact lets a group's log begin where all members have it.
func (c *Cluster) compact(n *node, g int) {
	m := n.memory
	if m == nil || m.machines[g] == nil {
		return
	}
	s, e := m.multi.Status(g)
	if e != api.OK || s.Role != raftcore.Leader {
		return
	}
	r := m.reports[g]
	for _, id := range s.Members {
		if id != n.id && (r.term != s.Term || r.has[id] < s.Applied) {
			return
		}
	}
	state, e := m.machines[g].State()
	if e == api.OK {
		c.sound(n, m.multi.Compact(g, state))
	}
}

// counts reads so many numbers off the front of bytes; what follows them.
func counts(b []byte, l ...*int) ([]byte, bool) {
	for _, p := range l {
		n, k, e := codec.TakeNumber(b)
		if e != api.OK || n > api.MaxWall {
			return nil, false
		}
		*p = int(n)
		b = b[k:]
	}
	return b, true
}

func numbered(rest []byte, l ...int) []byte {
	var b []byte
	for _, n := range l {
		b = append(b, codec.Number(uint64(n))...)
	}
	return append(b, rest...)
}
