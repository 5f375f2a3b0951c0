package simnet

import (
	"bytes"
	"slices"

	"cormorant/api"
)

// isCount tells whether a number may stand in a message.
func isCount(n int) bool { return n >= 0 && n <= api.MaxWall }

func isTerm(n int) bool { return n >= 1 && n <= api.MaxWall }

// isMembers tells whether nodes are members.
func isMembers(l []int) bool {
	for i, n := range l {
		if !isNode(n) || i > 0 && l[i-1] >= n {
			return false
		}
	}
	return len(l) > 0
}

func isEntry(e api.LogEntry) bool {
	if !isTerm(e.Term) || !isCount(e.Index) {
		return false
	}
	switch e.Kind {
	case api.EntryNone:
		return len(e.Data) == 0
	case api.EntryData:
		return len(e.Data) <= api.MaxData
	case api.EntryMember:
		return isMembers(numbers(e.Data))
	}
	return false
}

func numbers(b []byte) []int {
	l := make([]int, len(b))
	for i, c := range b {
		l[i] = int(c)
	}
	return l
}

// isMessage tells whether a message may be sent.
func isMessage(m api.RaftMsg) bool {
	if m.Group < 1 || m.Group > api.MaxGroup || !isNode(m.From) || !isNode(m.To) || !isTerm(m.Term) {
		return false
	}
	if !isCount(m.Index) || !isCount(m.LogTerm) || !isCount(m.Commit) {
		return false
	}
	rest := m // what its kind has no use for stays in it
	rest.Kind, rest.Group, rest.From, rest.To, rest.Term = 0, 0, 0, 0, 0
	switch m.Kind {
	case api.RaftVote:
		rest.Index, rest.LogTerm = 0, 0
	case api.RaftVoted:
		rest.OK = false
	case api.RaftAppend:
		if m.LogTerm > m.Term || !isEntries(m) {
			return false
		}
		rest.Index, rest.LogTerm, rest.Commit, rest.Entries = 0, 0, 0, nil
	case api.RaftAppended:
		rest.OK, rest.Index = false, 0
	case api.RaftSnap:
		if m.LogTerm > m.Term || !isMembers(m.Members) || len(m.Data) > api.MaxState {
			return false
		}
		rest.Index, rest.LogTerm, rest.Members, rest.Data = 0, 0, nil, nil
	default:
		return false
	}
	return isZero(rest)
}

func isZero(m api.RaftMsg) bool {
	return m.Index == 0 && m.LogTerm == 0 && m.Commit == 0 && !m.OK &&
		len(m.Entries) == 0 && len(m.Members) == 0 && len(m.Data) == 0
}

func isEntries(m api.RaftMsg) bool {
	if len(m.Entries) > api.MaxEntries {
		return false
	}
	for i, e := range m.Entries {
		if !isEntry(e) || e.Index != m.Index+1+i || e.Term > m.Term {
			return false
		}
	}
	return true
}

// counts puts numbers behind bytes.
func counts(b []byte, l ...int) []byte {
	for _, n := range l {
		for n >= 128 {
			b = append(b, byte(n)|128)
			n >>= 7
		}
		b = append(b, byte(n))
	}
	return b
}

// Encode is a raft message as bytes; Decode reads it.
func Encode(m api.RaftMsg) ([]byte, api.Errno) {
	if !isMessage(m) {
		return nil, api.ErrNetForm
	}
	b := counts([]byte{byte(m.Kind), byte(m.Group), byte(m.From), byte(m.To)}, m.Term)
	switch m.Kind {
	case api.RaftVote:
		b = counts(b, m.Index, m.LogTerm)
	case api.RaftVoted:
		b = putBool(b, m.OK)
	case api.RaftAppend:
		b = counts(b, m.Index, m.LogTerm, m.Commit, len(m.Entries))
		for _, e := range m.Entries {
			b = append(counts(b, e.Term), byte(e.Kind))
			b = append(counts(b, len(e.Data)), e.Data...)
		}
	case api.RaftAppended:
		b = counts(putBool(b, m.OK), m.Index)
	case api.RaftSnap:
		b = counts(b, m.Index, m.LogTerm, len(m.Members))
		for _, n := range m.Members {
			b = append(b, byte(n))
		}
		b = append(counts(b, len(m.Data)), m.Data...)
	}
	return b, api.OK
}

func putBool(b []byte, yes bool) []byte {
	if yes {
		return append(b, 1)
	}
	return append(b, 0)
}

func Decode(b []byte) (api.RaftMsg, api.Errno) {
	r := reader{rest: b}
	m := r.message()
	if r.bad || len(r.rest) > 0 {
		return api.RaftMsg{}, api.ErrNetForm
	}
	// Only what Encode makes is a message: whatever else could be wrong shows as another byte.
	again, e := Encode(m)
	if e != api.OK || !bytes.Equal(again, b) {
		return api.RaftMsg{}, api.ErrNetForm
	}
	return m, api.OK
}

// reader takes parts off the front of bytes; bad, if they end too early.
type reader struct {
	rest []byte
	bad  bool
}

func (r *reader) message() api.RaftMsg {
	m := api.RaftMsg{Kind: r.byte(), Group: r.byte(), From: r.byte(), To: r.byte(), Term: r.count()}
	switch m.Kind {
	case api.RaftVote:
		m.Index, m.LogTerm = r.count(), r.count()
	case api.RaftVoted:
		m.OK = r.byte() != 0
	case api.RaftAppend:
		m.Index, m.LogTerm, m.Commit = r.count(), r.count(), r.count()
		m.Entries = r.entries(m.Index)
	case api.RaftAppended:
		m.OK = r.byte() != 0
		m.Index = r.count()
	case api.RaftSnap:
		m.Index, m.LogTerm = r.count(), r.count()
		m.Members = numbers(r.bytes())
		m.Data = r.bytes()
	}
	return m
}

func (r *reader) entries(index int) []api.LogEntry {
	n := r.count()
	if n > api.MaxEntries {
		r.bad = true
		return nil
	}
	var l []api.LogEntry
	for i := range n {
		l = append(l, api.LogEntry{Index: index + 1 + i, Term: r.count(), Kind: r.byte(), Data: r.bytes()})
	}
	return l
}

func (r *reader) byte() int {
	if len(r.rest) == 0 {
		r.bad = true
		return 0
	}
	c := r.rest[0]
	r.rest = r.rest[1:]
	return int(c)
}

func (r *reader) count() int {
	n := 0
	for shift := 0; shift < 56; shift += 7 {
		c := r.byte()
		n |= c & 127 << shift
		if c < 128 {
			return n
		}
	}
	r.bad = true
	return 0
}

// bytes are so many as a count ahead of them says.
func (r *reader) bytes() []byte {
	n := r.count()
	if n > len(r.rest) {
		r.bad = true
		return nil
	}
	b := slices.Clone(r.rest[:n])
	r.rest = r.rest[n:]
	return b
}
