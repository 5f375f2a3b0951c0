package replica

import (
	"bytes"

	"cormorant/api"
	"cormorant/codec"
	"cormorant/hlc"
)

const (
	mostSpan = 111 // bytes of an end of a span
	mostRows = 90
	mostCode = 999
)

func isSpan(p api.Span) bool {
	return len(p.From) <= mostSpan && len(p.To) <= mostSpan && (len(p.To) == 0 || codec.Compare(p.From, p.To) < 0)
}

func isTxn(n int) bool { return n >= 1 && n <= api.MaxWall }

func isKey(b []byte) bool { return len(b) >= 1 && len(b) <= api.MaxRowKey }

// isCmd tells whether a command may be: it has what its kind needs, and nothing else.
func isCmd(c api.Cmd) bool {
	rest := c // what its kind has no use for stays in it
	rest.Kind, rest.Txn, rest.At = 0, 0, api.Stamp{}
	ok := hlc.Right(c.At)
	switch c.Kind {
	case api.CmdGet:
		ok = ok && (c.Txn == 0 || isTxn(c.Txn)) && isKey(c.Key)
		rest.Key = nil
	case api.CmdScan:
		ok = ok && (c.Txn == 0 || isTxn(c.Txn)) && isSpan(c.Span) && c.Most >= 1 && c.Most <= mostRows
		rest.Span, rest.Most = api.Span{}, 0
	case api.CmdPut:
		ok = ok && isTxn(c.Txn) && isTxn(c.Seq) && isKey(c.Key) && len(c.Value) <= api.MaxRow && (!c.Del || len(c.Value) == 0)
		rest.Seq, rest.Key, rest.Del, rest.Value = 0, nil, false, nil
	case api.CmdRefresh:
		ok = ok && isTxn(c.Txn) && isTxn(c.Seq) && hlc.Right(c.To) && isSpan(c.Span)
		rest.Seq, rest.To, rest.Span = 0, api.Stamp{}, api.Span{}
	case api.CmdBegin:
		ok = ok && isTxn(c.Txn) && isTxn(c.Seq)
		rest.Seq = 0
	case api.CmdEnd:
		ok = ok && isTxn(c.Txn)
		rest.Yes = false
	case api.CmdPush:
		ok = ok && isTxn(c.Txn) && isTxn(c.By)
		rest.By = 0
	case api.CmdForget:
		ok = isTxn(c.Txn) && c.At == api.Stamp{}
	case api.CmdResolve:
		ok = ok && isTxn(c.Txn) && isSpan(c.Span)
		rest.Yes, rest.Span = false, api.Span{}
	case api.CmdCollect:
		ok = ok && c.Txn == 0
	case api.CmdSplit:
		ok = c.Txn == 0 && c.At == api.Stamp{} && isKey(c.Key) && c.By >= 1 && c.By <= api.MaxGroup
		rest.Key, rest.By = nil, 0
	default:
		return false
	}
	return ok && isZero(rest)
}

func isZero(c api.Cmd) bool {
	return c.Seq == 0 && c.To == api.Stamp{} && c.By == 0 && !c.Yes && !c.Del && len(c.Key) == 0 &&
		len(c.Value) == 0 && len(c.Span.From) == 0 && len(c.Span.To) == 0 && c.Most == 0
}

// writer lays parts down as bytes, reader takes them off the front; bad, if they are none.
type writer struct{ b []byte }

func (w *writer) number(n int) { w.b = append(w.b, codec.Number(uint64(n))...) }

func (w *writer) text(s []byte) {
	w.number(len(s))
	w.b = append(w.b, s...)
}

func (w *writer) stamp(s api.Stamp) {
	b, _ := hlc.Bytes(s)
	w.b = append(w.b, b...)
}

func (w *writer) flag(yes bool) {
	if yes {
		w.b = append(w.b, 1)
	} else {
		w.b = append(w.b, 0)
	}
}

type reader struct {
	b   []byte
	bad bool
}

func (r *reader) number() int {
	n, k, e := codec.TakeNumber(r.b)
	if e != api.OK || n > api.MaxWall {
		r.bad = true
		return 0
	}
	r.b = r.b[k:]
	return int(n)
}

func (r *reader) text() []byte {
	s, k, e := codec.TakeText(r.b)
	if e != api.OK {
		r.bad = true
		return nil
	}
	r.b = r.b[k:]
	return s
}

const stampBytes = 9

func (r *reader) stamp() api.Stamp {
	if len(r.b) < stampBytes {
		r.bad = true
		return api.Stamp{}
	}
	s, e := hlc.Read(r.b[:stampBytes])
	if e != api.OK {
		r.bad = true
	}
	r.b = r.b[stampBytes:]
	return s
}

func (r *reader) flag() bool {
	if len(r.b) == 0 || r.b[0] > 1 {
		r.bad = true
		return false
	}
	yes := r.b[0] == 1
	r.b = r.b[1:]
	return yes
}

// done tells whether the bytes were just what was read of them.
func (r *reader) done() bool { return !r.bad && len(r.b) == 0 }

// Encode is a command as bytes; Decode reads it; Answer is an answer as bytes; Read reads it.
func Encode(c api.Cmd) ([]byte, api.Errno) {
	if !isCmd(c) {
		return nil, api.ErrReplicaForm
	}
	var w writer
	for _, n := range []int{c.Kind, c.Txn, c.Seq, c.By, c.Most} {
		w.number(n)
	}
	w.stamp(c.At)
	w.stamp(c.To)
	w.flag(c.Yes)
	w.flag(c.Del)
	for _, s := range [][]byte{c.Key, c.Value, c.Span.From, c.Span.To} {
		w.text(s)
	}
	return w.b, api.OK
}

func Decode(b []byte) (api.Cmd, api.Errno) {
	r := reader{b: b}
	c := api.Cmd{Kind: r.number(), Txn: r.number(), Seq: r.number(), By: r.number(), Most: r.number()}
	c.At, c.To = r.stamp(), r.stamp()
	c.Yes, c.Del = r.flag(), r.flag()
	c.Key, c.Value = r.text(), r.text()
	c.Span.From, c.Span.To = r.text(), r.text()
	again, e := Encode(c)
	if !r.done() || e != api.OK || !bytes.Equal(again, b) {
		return api.Cmd{}, api.ErrReplicaForm
	}
	return c, api.OK
}

func isRes(r api.Res) bool {
	if r.Code < 0 || r.Code > mostCode || r.State < 0 || r.State > api.TxnAborted || r.By < 0 || r.By > api.MaxWall {
		return false
	}
	if r.Got.By < 0 || r.Got.By > api.MaxWall || !hlc.Right(r.At) || !hlc.Right(r.Got.At) || len(r.Got.Value) > api.MaxRow || len(r.Rows) > mostRows {
		return false
	}
	for _, kv := range r.Rows {
		if !isKey(kv.Key) || len(kv.Value) > api.MaxRow {
			return false
		}
	}
	return true
}

func Answer(r api.Res) ([]byte, api.Errno) {
	if !isRes(r) {
		return nil, api.ErrReplicaForm
	}
	var w writer
	for _, n := range []int{int(r.Code), r.State, r.By, r.Got.By} {
		w.number(n)
	}
	w.stamp(r.At)
	w.stamp(r.Got.At)
	w.flag(r.Got.Found)
	w.text(r.Got.Value)
	w.number(len(r.Rows))
	for _, kv := range r.Rows {
		w.text(kv.Key)
		w.text(kv.Value)
	}
	return w.b, api.OK
}

func Read(b []byte) (api.Res, api.Errno) {
	r := reader{b: b}
	x := api.Res{Code: api.Errno(r.number()), State: r.number(), By: r.number()}
	x.Got.By = r.number()
	x.At, x.Got.At = r.stamp(), r.stamp()
	x.Got.Found = r.flag()
	x.Got.Value = r.text()
	for n := r.number(); n > 0 && !r.bad; n-- {
		x.Rows = append(x.Rows, api.KV{Key: r.text(), Value: r.text()})
	}
	again, e := Answer(x)
	if !r.done() || e != api.OK || !bytes.Equal(again, b) {
		return api.Res{}, api.ErrReplicaForm
	}
	return x, api.OK
}
