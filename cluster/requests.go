package cluster

import (
	"slices"

	"cormorant/api"
	"cormorant/raftcore"
	"cormorant/replica"
	"cormorant/txn"
)

const (
	patience    = 3 // pushes of one that stands in the way, one a tick
	resendAfter = 3 // ticks
)

// driver sends the requests of a transaction, or a single command, till there is none left.
type driver struct {
	txn    *txn.Txn // nil: of a single command
	single api.Cmd
	id     int
	deal   *deal
	conn   *conn // whose transaction it is, as long as that is there
	call   int   // number of the request that is not answered; 0: there is none
	asked  txn.Request
	age    int // ticks since it was sent
	tries  int
	hold   bool // nothing is sent ahead of the next tick
	pushed bool // another one was pushed since the last tick
	quit   bool // it is to be aborted when its request is answered
}

// next is the request that is to be sent.
func (d *driver) next(ranges []api.Range) (txn.Request, bool) {
	if d.txn != nil {
		return d.txn.Next(ranges)
	}
	for _, r := range ranges {
		if len(r.Span.From) == 0 {
			return txn.Request{Range: r.Id, Cmd: d.single}, true
		}
	}
	return txn.Request{}, false
}

// pump sends what a driver has to send now.
func (c *Cluster) pump(n *node, d *driver) {
	m := n.memory
	if m == nil || d.call != 0 || d.hold {
		return
	}
	q, ok := d.next(m.ranges)
	if !ok || q.Cmd.Kind == api.CmdPush && d.pushed {
		return
	}
	d.pushed = d.pushed || q.Cmd.Kind == api.CmdPush
	d.asked, d.call, d.tries = q, c.number(), 0
	m.calls[d.call] = d
	c.sendRequest(n, d)
}

func (c *Cluster) sendRequest(n *node, d *driver) {
	d.age = 0
	b, e := replica.Encode(d.asked.Cmd)
	if e != api.OK {
		return
	}
	c.post(n, c.target(n, d.asked.Range, d.tries), kindRequest, numbered(b, d.call, d.asked.Range))
}

// target is the node that may lead a group: who is known to, or in turn everybody.
func (c *Cluster) target(n *node, g, tries int) int {
	leader := 0
	if s, e := n.memory.multi.Status(g); e == api.OK {
		leader = s.Leader
	}
	hint := n.memory.hints[g]
	switch {
	case tries%2 == 0 && leader != 0:
		return leader
	case tries%4 < 2 && hint != 0:
		return hint
	}
	return 1 + (n.id+tries)%len(c.nodes)
}

// wake lets a tick pass for a driver.
func (c *Cluster) wake(n *node, d *driver) {
	d.hold, d.pushed = false, false
	if d.call == 0 {
		c.pump(n, d)
		return
	}
	d.age++
	if d.age >= resendAfter {
		d.tries++
		c.sendRequest(n, d)
	}
}

// takeRequest proposes a command that has come, if the node leads the group.
func (c *Cluster) takeRequest(n *node, from int, body []byte) {
	m := n.memory
	var call, g int
	b, ok := counts(body, &call, &g)
	if !ok {
		return
	}
	s, e := m.multi.Status(g)
	if e != api.OK || s.Role != raftcore.Leader {
		c.post(n, from, kindRefusal, numbered(nil, call, s.Leader))
		return
	}
	for _, w := range m.waiting[g] {
		if w == (caller{node: from, call: call, term: s.Term}) {
			return
		}
	}
	index := c.propose(n, g, b)
	if index == 0 {
		return
	}
	if m.waiting[g] == nil {
		m.waiting[g] = map[int]caller{}
	}
	m.waiting[g][index] = caller{node: from, call: call, term: s.Term}
	c.apply(n, g)
}

// reply sends what a command came to.
func (c *Cluster) reply(n *node, w caller, r api.Res) {
	if b, e := replica.Answer(r); e == api.OK {
		c.post(n, w.node, kindAnswer, numbered(b, w.call))
	}
}

// takeAnswer takes what has come of a request.
func (c *Cluster) takeAnswer(n *node, from, kind int, body []byte) {
	m := n.memory
	var call, hint int
	b, ok := counts(body, &call)
	d := m.calls[call]
	if !ok || d == nil {
		return
	}
	if kind == kindRefusal {
		if _, ok := counts(b, &hint); ok {
			m.hints[d.asked.Range] = hint
		}
		d.age = resendAfter
		return
	}
	r, e := replica.Read(b)
	if e != api.OK {
		return
	}
	m.hints[d.asked.Range] = from
	delete(m.calls, call)
	d.call = 0
	c.answered(n, d, r)
}

// answered lets a driver go on.
func (c *Cluster) answered(n *node, d *driver, r api.Res) {
	if d.txn == nil {
		d.hold = true
		if r.Code != api.ErrReplicaKey {
			n.memory.drop(d)
		}
		return
	}
	ok := d.txn.Answer(d.asked, r)
	if !ok || r.Code != api.OK && r.Code != api.ErrMvccIntent {
		d.hold = true
	}
	if q := d.asked.Cmd; ok && q.Kind == api.CmdResolve && q.Txn != d.id && !q.Yes && r.Code == api.OK {
		c.forget(n, q.Txn)
	}
	if d.quit {
		d.txn.Abort()
	}
	c.moved(n, d)
}

// moved tells whoever waits for a driver that it has gone on.
func (c *Cluster) moved(n *node, d *driver) {
	over := d.txn.State() == txn.Over
	if over {
		n.memory.drop(d)
	}
	if x := d.conn; x != nil {
		if x.driver == d {
			c.advance(x)
		} else if over && x.last == d {
			x.last = nil
			c.ready = append(c.ready, x)
		}
	}
	c.pump(n, d)
}

func (m *memory) drop(d *driver) {
	m.drivers = slices.DeleteFunc(m.drivers, func(x *driver) bool { return x == d })
}

// forget lets go of the record of another transaction that has been aborted: its own node may have failed.
func (c *Cluster) forget(n *node, id int) {
	d := &driver{single: api.Cmd{Kind: api.CmdForget, Txn: id}}
	n.memory.drivers = append(n.memory.drivers, d)
	c.pump(n, d)
}

// abort ends a transaction that nobody wants any more; what it has asked to be written must be known first.
func (c *Cluster) abort(n *node, d *driver) {
	kind := d.asked.Cmd.Kind
	if d.call != 0 && (kind == api.CmdBegin || kind == api.CmdPut) {
		d.quit = true
		return
	}
	if d.txn.Abort() != api.OK {
		return
	}
	delete(n.memory.calls, d.call)
	d.call = 0
	if d.txn.State() == txn.Over {
		n.memory.drop(d)
	}
	c.pump(n, d)
}
