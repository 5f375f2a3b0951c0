package replica

import (
	"bytes"
	"slices"

	"cormorant/api"
	"cormorant/hlc"
)

// open makes a record, if there is room.
func (m *Machine) open(txn, state int, at api.Stamp) api.Errno {
	if len(m.records) >= api.MaxTxns {
		return api.ErrReplicaFull
	}
	m.records[txn] = record{state: state, at: at}
	return api.OK
}

// settled makes an aborted record of a transaction that has none.
func (m *Machine) settled(txn int, at api.Stamp) api.Errno {
	if _, there := m.records[txn]; there {
		return api.OK
	}
	return m.open(txn, api.TxnAborted, at)
}

func (m *Machine) begin(c api.Cmd) api.Res {
	if r, ok := m.again(c); ok {
		return r
	}
	r := api.Res{State: api.TxnPending}
	if old, there := m.records[c.Txn]; there {
		r.State = old.state
		if old.state != api.TxnPending {
			r.Code = api.ErrReplicaTxn
			return r
		}
	} else if e := m.open(c.Txn, api.TxnPending, c.At); e != api.OK {
		return code(e)
	}
	m.note(c, r)
	return r
}

func (m *Machine) end(c api.Cmd) api.Res {
	if e := m.settled(c.Txn, c.At); e != api.OK {
		return code(e)
	}
	r := m.records[c.Txn]
	if r.state == api.TxnPending {
		r = record{state: api.TxnAborted, at: c.At}
		if c.Yes {
			r.state = api.TxnCommitted
		}
		m.records[c.Txn] = r
	}
	res := api.Res{State: r.state, At: r.at}
	if c.Yes != (r.state == api.TxnCommitted) {
		res.Code = api.ErrReplicaTxn
	}
	return res
}

func (m *Machine) push(c api.Cmd) api.Res {
	if e := m.settled(c.Txn, c.At); e != api.OK {
		return code(e)
	}
	r := m.records[c.Txn]
	if before := hlc.Compare(c.At, r.at); r.state == api.TxnPending && (before < 0 || before == 0 && c.By < c.Txn) {
		r.state = api.TxnAborted
		m.records[c.Txn] = r
	}
	return api.Res{State: r.state, At: r.at}
}

func (m *Machine) forget(c api.Cmd) api.Res {
	if m.records[c.Txn].state == api.TxnPending {
		return code(api.ErrReplicaTxn)
	}
	delete(m.records, c.Txn)
	return api.Res{}
}

func (m *Machine) resolve(c api.Cmd) api.Res {
	if !m.holdsSpan(c.Span) {
		return code(api.ErrReplicaKey)
	}
	for _, key := range m.intentsOf(c.Txn, c.Span) {
		if _, e := m.space.Resolve(key, c.Txn, c.Yes, c.At); e != api.OK {
			return code(e)
		}
	}
	return api.Res{}
}

// intentsOf are the keys in a span at which a transaction has an intent, rising. A span that has only one key need not be searched for: where that has none, there is nothing to resolve.
func (m *Machine) intentsOf(txn int, p api.Span) [][]byte {
	if isKey(p.From) && bytes.Equal(p.To, append(slices.Clone(p.From), 0)) {
		return [][]byte{p.From}
	}
	var keys [][]byte
	for _, i := range m.space.Intents() {
		if i.Txn == txn && contains(p, i.Key) {
			keys = append(keys, i.Key)
		}
	}
	return keys
}

func (m *Machine) collect(c api.Cmd) api.Res {
	_, e := m.space.Collect(c.At)
	return code(e)
}
