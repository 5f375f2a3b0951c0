package txn

import (
	"bytes"
	"slices"

	"cormorant/api"
	"cormorant/hlc"
)

// Answer takes what a range has answered to the request that Next told.
func (t *Txn) Answer(q Request, r api.Res) bool {
	if t.state == Idle || t.state == Over || q.Turn != t.turn || r.Code == api.ErrReplicaKey || !t.isRequest(q.Cmd) {
		return false
	}
	t.turn++
	if !t.take(q.Cmd, r) && t.stage != cleaning {
		t.fail()
	}
	return true
}

// take does what an answer asks; false: it is an error, or makes no sense.
func (t *Txn) take(c api.Cmd, r api.Res) bool {
	switch {
	case c.Kind == api.CmdEnd && t.stage == undoing:
		t.stage, t.clean = cleaning, slices.Clone(t.written)
		return true
	case c.Kind == api.CmdForget:
		t.state = Over
		return true
	case r.Code == api.ErrMvccIntent:
		return t.takeIntent(c, r)
	case r.Code != api.OK:
		return false
	}
	switch c.Kind {
	case api.CmdScan:
		t.takeRows(c, r)
	case api.CmdBegin:
		t.seq++
		t.begun = true
	case api.CmdPut:
		return t.takePut(c, r)
	case api.CmdRefresh:
		t.takeRefresh(c)
	case api.CmdEnd:
		t.state, t.stage, t.clean = Committed, cleaning, slices.Clone(t.written)
	case api.CmdResolve:
		if t.block.txn != 0 {
			t.block = block{}
		} else {
			t.clean = t.clean[1:]
		}
	case api.CmdPush:
		return t.takePush(r)
	}
	return true
}

// takeIntent notes who stands in the way of a read or a write.
func (t *Txn) takeIntent(c api.Cmd, r api.Res) bool {
	if !isTxn(r.By) || r.By == t.id {
		return false
	}
	switch c.Kind {
	case api.CmdScan:
		t.block = block{txn: r.By, span: cloneSpan(c.Span)}
	case api.CmdPut:
		t.block = block{txn: r.By, span: only(c.Key)}
	default:
		return false
	}
	return true
}

func (t *Txn) takePush(r api.Res) bool {
	switch r.State {
	case api.TxnPending:
		t.block.pending++
	case api.TxnCommitted, api.TxnAborted:
		t.block.state, t.block.at = r.State, r.At
	default:
		return false
	}
	return true
}

func (t *Txn) takeRows(c api.Cmd, r api.Res) {
	for _, kv := range r.Rows {
		t.got = append(t.got, api.KV{Key: slices.Clone(kv.Key), Value: slices.Clone(kv.Value)})
	}
	full := len(r.Rows) >= mostRows
	from := slices.Clone(c.Span.To)
	if full {
		from = append(slices.Clone(r.Rows[len(r.Rows)-1].Key), 0)
	}
	t.rest = api.Span{From: from, To: t.asked.To}
	if len(c.Span.To) > 0 || full {
		if len(t.asked.To) == 0 || bytes.Compare(from, t.asked.To) < 0 {
			return
		}
	}
	t.read = append(t.read, t.asked)
	t.rows, t.got = t.got, nil
	t.state = Idle
}

func (t *Txn) takePut(c api.Cmd, r api.Res) bool {
	if !hlc.Right(r.At) {
		return false
	}
	t.seq++
	if hlc.Compare(r.At, t.end) > 0 {
		t.end = r.At
	}
	if t.hasWritten[string(c.Key)] == 0 {
		t.hasWritten[string(c.Key)] = 1
		t.written = append(t.written, slices.Clone(c.Key))
	}
	t.ops = t.ops[1:]
	if len(t.ops) == 0 {
		t.state = Idle
	}
	return true
}

func (t *Txn) takeRefresh(c api.Cmd) {
	t.seq++
	p := t.refreshes[0]
	if to := c.Span.To; len(to) > 0 && (len(p.To) == 0 || bytes.Compare(to, p.To) < 0) {
		t.refreshes[0] = api.Span{From: slices.Clone(to), To: p.To}
		return
	}
	t.refreshes = t.refreshes[1:]
	if len(t.refreshes) == 0 {
		t.at = t.end
		t.stage = ending
	}
}
