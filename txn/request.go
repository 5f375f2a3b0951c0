package txn

import (
	"bytes"
	"slices"

	"cormorant/api"
	"cormorant/rangemeta"
)

// Next is what is to be sent now, where the ranges are these; false: nothing; or no range holds what it needs.
func (t *Txn) Next(l []api.Range) (Request, bool) {
	if t.state == Idle || t.state == Over {
		return Request{}, false
	}
	c, need := t.request()
	id, part, ok := partOf(l, need)
	if !ok {
		return Request{}, false
	}
	if isSpanned(c.Kind) {
		c.Span = part
	}
	return Request{Range: id, Cmd: c, Turn: t.turn}, true
}

func isSpanned(kind int) bool {
	return kind == api.CmdScan || kind == api.CmdRefresh || kind == api.CmdResolve
}

// partOf is the range that a span begins in, and what of the span that has; how old the ranges are does not count.
func partOf(l []api.Range, p api.Span) (int, api.Span, bool) {
	for _, r := range l {
		r.Gen = 1
		c := rangemeta.Fresh()
		c.Learn(r)
		parts, _ := c.Cut(p)
		if len(parts) > 0 && bytes.Equal(parts[0].Span.From, p.From) {
			return r.Id, parts[0].Span, true
		}
	}
	return 0, api.Span{}, false
}

// only is the span of one key.
func only(key []byte) api.Span {
	return api.Span{From: slices.Clone(key), To: append(slices.Clone(key), 0)}
}

// request is the command of the stage, and what it is about; its Span is not cut yet. The home is that of the span of all keys.
func (t *Txn) request() (api.Cmd, api.Span) {
	if t.block.txn != 0 {
		return t.unblock()
	}
	home := api.Span{}
	switch t.stage {
	case reading:
		return api.Cmd{Kind: api.CmdScan, Txn: t.id, At: t.at, Span: t.rest, Most: mostRows}, t.rest
	case writing:
		if !t.begun {
			return api.Cmd{Kind: api.CmdBegin, Txn: t.id, Seq: t.seq, At: t.start}, home
		}
		op := t.ops[0]
		c := api.Cmd{Kind: api.CmdPut, Txn: t.id, Seq: t.seq, At: t.end, Key: slices.Clone(op.Key), Del: op.Del, Value: slices.Clone(op.Value)}
		return c, only(op.Key)
	case refreshing:
		p := t.refreshes[0]
		return api.Cmd{Kind: api.CmdRefresh, Txn: t.id, Seq: t.seq, At: t.at, To: t.end, Span: p}, p
	case ending:
		return api.Cmd{Kind: api.CmdEnd, Txn: t.id, Yes: true, At: t.end}, home
	case undoing:
		return api.Cmd{Kind: api.CmdEnd, Txn: t.id, At: t.end}, home
	}
	if len(t.clean) == 0 {
		return api.Cmd{Kind: api.CmdForget, Txn: t.id}, home
	}
	return resolve(t.id, t.state == Committed, t.end, only(t.clean[0]))
}

// unblock is what is asked about the one that stands in the way.
func (t *Txn) unblock() (api.Cmd, api.Span) {
	b := t.block
	if b.state != 0 {
		return resolve(b.txn, b.state == api.TxnCommitted, b.at, b.span)
	}
	c := api.Cmd{Kind: api.CmdPush, Txn: b.txn, By: t.id, At: t.start}
	if b.pending >= t.patience {
		c.At = api.Stamp{}
	}
	return c, api.Span{}
}

func resolve(txn int, yes bool, at api.Stamp, p api.Span) (api.Cmd, api.Span) {
	if !yes {
		at = api.Stamp{}
	}
	return api.Cmd{Kind: api.CmdResolve, Txn: txn, Yes: yes, At: at, Span: p}, p
}

// isRequest tells whether a command is the request, but for the end of its span.
func (t *Txn) isRequest(c api.Cmd) bool {
	w, _ := t.request()
	return c.Kind == w.Kind && c.Txn == w.Txn && c.Seq == w.Seq && c.At == w.At && c.To == w.To && c.By == w.By &&
		c.Yes == w.Yes && c.Del == w.Del && bytes.Equal(c.Key, w.Key) && bytes.Equal(c.Value, w.Value) &&
		bytes.Equal(c.Span.From, w.Span.From) && c.Most == w.Most
}
