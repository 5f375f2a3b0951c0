package raftcore

import (
	"cormorant/api"
	"cormorant/raftlog"
)

// refuse answers a message of an earlier term.
func (r *Raft) refuse(m api.RaftMsg) {
	switch m.Kind {
	case api.RaftVote:
		r.send(m.From, api.RaftMsg{Kind: api.RaftVoted})
	case api.RaftAppend, api.RaftSnap:
		r.answer(m.From, false, 0)
	}
}

// answer tells a leader up to where this node has what it sent, or might.
func (r *Raft) answer(to int, ok bool, index int) {
	r.send(to, api.RaftMsg{Kind: api.RaftAppended, OK: ok, Index: index})
}

// take does what a message of the node's own term asks.
func (r *Raft) take(m api.RaftMsg) {
	switch m.Kind {
	case api.RaftVote:
		r.takeVote(m)
	case api.RaftVoted:
		if m.OK && r.role == Candidate && r.elected(m.From) {
			r.lead()
		}
	case api.RaftAppend:
		if r.role != Leader {
			r.heard(m.From)
			r.takeAppend(m)
		}
	case api.RaftSnap:
		if r.role != Leader {
			r.heard(m.From)
			r.takeSnap(m)
		}
	case api.RaftAppended:
		if r.role == Leader {
			r.takeAppended(m)
		}
	}
}

func (r *Raft) takeVote(m api.RaftMsg) {
	ok := (r.vote == 0 || r.vote == m.From) && r.log.Newer(m.Index, m.LogTerm)
	if ok {
		r.vote, r.elapsed = m.From, 0
	}
	r.send(m.From, api.RaftMsg{Kind: api.RaftVoted, OK: ok})
}

// heard notes that there is a leader.
func (r *Raft) heard(leader int) {
	r.role, r.leader, r.elapsed = Follower, leader, 0
}

func (r *Raft) takeAppend(m api.RaftMsg) {
	k, ok, e := r.log.Offer(m.Index, m.LogTerm, m.Entries)
	if e != api.OK {
		return
	}
	if ok {
		r.log.Settle(min(m.Commit, k))
	}
	r.answer(m.From, ok, k)
}

func (r *Raft) takeSnap(m api.RaftMsg) {
	if commit := r.log.Commit(); m.Index <= commit {
		r.answer(m.From, true, commit)
		return
	}
	if r.log.Reset(raftlog.Point{Index: m.Index, Term: m.LogTerm, Members: m.Members}) != api.OK {
		return
	}
	r.state = append([]byte{}, m.Data...)
	r.answer(m.From, true, m.Index)
}

// takeAppended goes on with a node from where it is.
func (r *Raft) takeAppended(m api.RaftMsg) {
	f := m.From
	if !m.OK {
		if m.Index+1 < r.next[f] {
			r.next[f] = max(m.Index, r.match[f]) + 1
			r.sendTo(f)
		}
		return
	}
	if m.Index > r.lastIndex() {
		return
	}
	r.match[f] = max(r.match[f], m.Index)
	r.next[f] = r.match[f] + 1
	if r.advance() {
		r.sendAll()
	} else if r.role == Leader && r.next[f] <= r.lastIndex() {
		r.sendTo(f)
	}
}
