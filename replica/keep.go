package replica

import (
	"bytes"
	"maps"
	"slices"

	"cormorant/api"
	"cormorant/codec"
	"cormorant/mvcc"
)

// The machine as keys and values: each kind is a key's first byte.
const (
	keepMark   = 'k' // the key
	keepLow    = 'l'
	keepSpace  = 'm' // a key of the space's
	keepOldest = 'o'
	keepSeen   = 'q' // the transaction
	keepRecord = 'r' // the transaction
	keepSpan   = 's'
)

func txnKey(kind byte, txn int) string {
	return string(append([]byte{kind}, codec.KeyInt(int64(txn))...))
}

func (k mark) bytes() []byte {
	var w writer
	w.stamp(k.at)
	w.number(k.by)
	return w.b
}

// own is what the machine has beside its space, as keys and values.
func (m *Machine) own() map[string][]byte {
	var span, oldest writer
	span.text(m.span.From)
	span.text(m.span.To)
	oldest.number(m.oldest)
	all := map[string][]byte{string(rune(keepSpan)): span.b, string(rune(keepOldest)): oldest.b, string(rune(keepLow)): m.low.bytes()}
	for key, k := range m.marks {
		all[string(rune(keepMark))+key] = k.bytes()
	}
	for txn, r := range m.records {
		var w writer
		w.number(r.state)
		w.stamp(r.at)
		all[txnKey(keepRecord, txn)] = w.b
	}
	for txn, s := range m.seen {
		var w writer
		w.number(s.seq)
		w.number(int(s.code))
		w.stamp(s.at)
		all[txnKey(keepSeen, txn)] = w.b
	}
	return all
}

func spaceKey(key []byte) []byte { return append([]byte{keepSpace}, key...) }

// Take tells what has changed since it was last asked.
func (m *Machine) Take() []api.Op {
	own := m.own()
	var l []api.Op
	for key, value := range own {
		if before, there := m.taken[key]; !there || !bytes.Equal(before, value) {
			l = append(l, api.Op{Key: []byte(key), Value: slices.Clone(value)})
		}
	}
	for key := range m.taken {
		if _, there := own[key]; !there {
			l = append(l, api.Op{Del: true, Key: []byte(key)})
		}
	}
	for _, op := range m.takeSpace() {
		op.Key = spaceKey(op.Key)
		l = append(l, op)
	}
	m.taken = own
	slices.SortFunc(l, func(a, b api.Op) int { return codec.Compare(a.Key, b.Key) })
	return l
}

// takeSpace is what has changed of the space, or all of it.
func (m *Machine) takeSpace() []api.Op {
	l := m.space.Take()
	if !m.whole {
		return l
	}
	m.whole = false
	l = nil
	for _, kv := range m.space.All() {
		l = append(l, api.Op{Key: kv.Key, Value: kv.Value})
	}
	return l
}

// State is all of it as bytes.
func (m *Machine) State() ([]byte, api.Errno) {
	var w writer
	own := m.own()
	for _, key := range slices.Sorted(maps.Keys(own)) {
		w.text([]byte(key))
		w.text(own[key])
	}
	for _, kv := range m.space.All() {
		w.text(spaceKey(kv.Key))
		w.text(kv.Value)
	}
	if len(w.b) > api.MaxState {
		return nil, api.ErrReplicaFull
	}
	return w.b, api.OK
}

// Load is one of what was taken; Restore one of a state.
func Load(l []api.KV) (*Machine, api.Errno) {
	m := newMachine(api.Span{}, nil)
	var rest []api.KV
	for _, kv := range l {
		if len(kv.Key) > 0 && kv.Key[0] == keepSpace {
			rest = append(rest, api.KV{Key: kv.Key[1:], Value: kv.Value})
		} else if !m.load(kv) {
			return nil, api.ErrReplicaForm
		}
	}
	for _, kind := range []byte{keepLow, keepOldest, keepSpan} {
		if _, there := m.taken[string(rune(kind))]; !there {
			return nil, api.ErrReplicaForm
		}
	}
	var e api.Errno
	if m.space, e = mvcc.Load(rest); e != api.OK {
		return nil, api.ErrReplicaForm
	}
	return m, api.OK
}

// load takes one key with its value.
func (m *Machine) load(kv api.KV) bool {
	if len(kv.Key) == 0 {
		return false
	}
	m.taken[string(kv.Key)] = slices.Clone(kv.Value)
	r := reader{b: kv.Value}
	key := kv.Key[1:]
	switch kv.Key[0] {
	case keepSpan:
		m.span = api.Span{From: r.text(), To: r.text()}
		return r.done() && isSpan(m.span) && len(key) == 0
	case keepOldest:
		m.oldest = r.number()
		return r.done() && len(key) == 0
	case keepLow:
		m.low = mark{at: r.stamp(), by: r.number()}
		return r.done() && len(key) == 0
	case keepMark:
		m.marks[string(key)] = mark{at: r.stamp(), by: r.number()}
		return r.done() && isKey(key)
	}
	txn, n, e := codec.TakeKeyInt(key)
	if e != api.OK || n != len(key) || !isTxn(int(txn)) {
		return false
	}
	switch kv.Key[0] {
	case keepRecord:
		x := record{state: r.number(), at: r.stamp()}
		m.records[int(txn)] = x
		return r.done() && x.state >= api.TxnPending && x.state <= api.TxnAborted
	case keepSeen:
		x := answered{seq: r.number(), code: api.Errno(r.number()), at: r.stamp()}
		m.seen[int(txn)] = x
		return r.done() && x.code <= mostCode
	}
	return false
}

func Restore(state []byte) (*Machine, api.Errno) {
	r := reader{b: state}
	var l []api.KV
	for len(r.b) > 0 && !r.bad {
		l = append(l, api.KV{Key: r.text(), Value: r.text()})
	}
	if r.bad {
		return nil, api.ErrReplicaForm
	}
	m, e := Load(l)
	if e != api.OK {
		return nil, e
	}
	m.taken = map[string][]byte{}
	m.whole = true
	return m, api.OK
}
