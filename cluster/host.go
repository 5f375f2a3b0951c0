package cluster

import (
	"bytes"
	"maps"
	"slices"

	"cormorant/api"
	"cormorant/pgsession"
	"cormorant/pgwire"
	"cormorant/sqlexec"
	"cormorant/txn"
)

const (
	mostWrites = 2000 // of a statement
	writesAt   = 200  // once
	manyNeeds  = 16   // from so many on, what lies between is read, too
	prefixLong = 17   // bytes of a key that tell its table and its index
)

// What a job does.
const (
	reading = 1 + iota
	writing
	committing
	waiting // for its end to pass
)

// conn is a client's connection, with the session at its node's end.
type conn struct {
	id      int
	node    *node
	session *pgsession.Session
	open    bool
	out     []byte
	raw     []byte // what the session has not been seen to take up
	fed     int    // bytes
	seen    int    // bytes of them that the session has taken up
	started bool
	queries int     // that the session has taken up
	driver  *driver // of the transaction that is open
	last    *driver // of the one ahead, which is not over yet
	job     *job
}

// job is what a session has asked and waits for.
type job struct {
	ask      pgsession.Ask
	phase    int
	spans    []api.Span        // that were read
	rows     map[string][]byte // in them
	needs    []api.Span        // that are to be read
	writes   []api.Op          // that are to be made
	outcome  api.Outcome
	readOnly bool
}

func (c *Cluster) connect(id int, n *node) api.Errno {
	s, e := pgsession.New(id, n.id)
	if e != api.OK {
		return e
	}
	c.conns[id] = &conn{id: id, node: n, session: s, open: true}
	return api.OK
}

// connsOf are the open connections of a node, rising.
func (c *Cluster) connsOf(n *node) []*conn {
	var l []*conn
	for _, id := range slices.Sorted(maps.Keys(c.conns)) {
		if x := c.conns[id]; x.open && x.node == n {
			l = append(l, x)
		}
	}
	return l
}

// lost forgets what the node had of a connection.
func (x *conn) lost() {
	x.open = false
	x.driver, x.last, x.job = nil, nil, nil
}

// hangUp ends a connection; what it had open is aborted.
func (c *Cluster) hangUp(x *conn) {
	x.session.Close()
	for _, d := range []*driver{x.driver, x.last} {
		if d != nil {
			d.conn = nil
		}
	}
	if x.driver != nil {
		c.abort(x.node, x.driver)
	}
	x.lost()
}

// feed takes bytes of the client's.
func (c *Cluster) feed(x *conn, b []byte) {
	x.raw = append(x.raw, b...)
	x.fed += len(b)
	x.send(x.session.Feed(b))
	c.ready = append(c.ready, x)
}

// send sends what the session says, and counts the queries that it has taken up.
func (x *conn) send(b []byte) {
	x.out = append(x.out, b...)
	for !x.session.Closed() && x.seen < x.fed-x.session.Left() {
		f, n, e := pgwire.TakeFront(x.raw, !x.started)
		if e != api.OK {
			return
		}
		x.raw = x.raw[n:]
		x.seen += n
		switch f.Kind {
		case api.FrontStartup:
			x.started = true
		case api.FrontQuery:
			x.queries++
		}
	}
}

func (c *Cluster) answer(x *conn, o api.Outcome, e api.Errno) {
	x.send(x.session.Answer(o, e))
}

// serve does what a session asks, one thing after the other.
func (c *Cluster) serve(x *conn) {
	for x.open && x.job == nil {
		if x.session.Closed() {
			c.hangUp(x)
			return
		}
		a := x.session.Ask()
		begins := a.Kind == pgsession.AskBegin || a.Kind == pgsession.AskRun && a.Own
		if a.Kind == pgsession.AskNone || begins && x.last != nil {
			return
		}
		e := api.OK
		if begins {
			e = c.begin(x)
		}
		switch {
		case e != api.OK || a.Kind == pgsession.AskBegin:
			c.answer(x, api.Outcome{}, e)
		case a.Kind == pgsession.AskAbort:
			c.leave(x, true)
			c.answer(x, api.Outcome{}, api.OK)
		default:
			c.take(x, a)
		}
	}
}

// take begins a statement or a commit.
func (c *Cluster) take(x *conn, a pgsession.Ask) {
	x.job = &job{ask: a, rows: map[string][]byte{}}
	switch {
	case x.driver == nil:
		c.finish(x, api.Outcome{}, api.ErrTxnAgain)
	case a.Kind == pgsession.AskCommit:
		c.commit(x)
	default:
		x.driver.deal.ran(x.queries - 1)
		c.run(x)
	}
}

// begin opens a transaction.
func (c *Cluster) begin(x *conn) api.Errno {
	m := x.node.memory
	now, e := m.clock.Now(c.wall(x.node))
	if e != api.OK {
		return e
	}
	id := c.number()
	t, e := txn.New(id, now, patience)
	if e != api.OK {
		return e
	}
	d := &driver{txn: t, id: id, deal: &deal{conn: x.id}, conn: x}
	c.deals[id] = d.deal
	m.drivers = append(m.drivers, d)
	x.driver = d
	return api.OK
}

// leave lets go of the open transaction.
func (c *Cluster) leave(x *conn, abort bool) {
	d := x.driver
	if d == nil {
		return
	}
	x.driver, x.last = nil, d
	if abort {
		c.abort(x.node, d)
	}
	if d.txn.State() == txn.Over {
		x.node.memory.drop(d)
		x.last = nil
	}
}

// finish answers what a session has asked.
func (c *Cluster) finish(x *conn, o api.Outcome, e api.Errno) {
	j := x.job
	x.job = nil
	if d := x.driver; d != nil && (j.ask.Own || j.ask.Kind == pgsession.AskCommit) {
		if e == api.OK && j.readOnly {
			c.committed(d.deal, d.txn.At(), false)
		}
		c.leave(x, e != api.OK)
	}
	c.answer(x, o, e)
	c.ready = append(c.ready, x)
}

// run does the statement over what was read, and reads or writes what it says.
func (c *Cluster) run(x *conn) {
	j := x.job
	o, e := sqlexec.Run(j.ask.Stmt, j.view())
	switch {
	case e != api.OK:
		c.finish(x, api.Outcome{}, e)
	case len(o.Needs) > 0:
		j.phase, j.needs = reading, readable(o.Needs)
		c.read(x)
	case isLong(o.Writes):
		c.finish(x, api.Outcome{}, api.ErrRowLong)
	default:
		j.phase, j.outcome, j.writes = writing, o, o.Writes
		c.write(x)
	}
}

func isLong(l []api.Op) bool {
	return len(l) > mostWrites || slices.ContainsFunc(l, func(op api.Op) bool {
		return len(op.Key) > api.MaxRowKey || len(op.Value) > api.MaxRow
	})
}

// view is what was read, as one.
func (j *job) view() api.View {
	v := api.View{Spans: j.spans}
	for _, key := range slices.Sorted(maps.Keys(j.rows)) {
		v.Rows = append(v.Rows, api.KV{Key: []byte(key), Value: j.rows[key]})
	}
	return v
}

// readable are spans, rising and apart, that have at least what is needed, and whose ends are short enough.
func readable(needs []api.Span) []api.Span {
	var l []api.Span
	for _, p := range needs {
		p = api.Span{From: p.From[:min(len(p.From), api.MaxRowKey)], To: ceiling(p.To)}
		k := len(l) - 1
		if k >= 0 && len(needs) >= manyNeeds && bytes.Equal(prefix(l[k].From), prefix(p.From)) {
			l[k].To = later(l[k].To, p.To)
			continue
		}
		l = append(l, p)
	}
	return together(l)
}

func prefix(key []byte) []byte { return key[:min(len(key), prefixLong)] }

func later(a, b []byte) []byte {
	if bytes.Compare(a, b) < 0 {
		return b
	}
	return a
}

// ceiling is a short key that is not below another one.
func ceiling(key []byte) []byte {
	if len(key) <= api.MaxRowKey {
		return key
	}
	key = slices.Clone(key[:api.MaxRowKey])
	for i := len(key) - 1; i > 0 && key[i] == 255; i-- {
		key = key[:i]
	}
	key[len(key)-1]++
	return key
}

// together makes spans of others that are rising and apart.
func together(l []api.Span) []api.Span {
	slices.SortFunc(l, func(a, b api.Span) int { return bytes.Compare(a.From, b.From) })
	var out []api.Span
	for _, p := range l {
		if k := len(out) - 1; k >= 0 && bytes.Compare(p.From, out[k].To) <= 0 {
			out[k].To = later(out[k].To, p.To)
			continue
		}
		out = append(out, p)
	}
	return out
}

// read reads the first span of what is needed.
func (c *Cluster) read(x *conn) {
	if x.driver.txn.Read(x.job.needs[0]) != api.OK {
		c.finish(x, api.Outcome{}, api.ErrTxnAgain)
		return
	}
	c.pump(x.node, x.driver)
}

// write makes what of the writes is made at once, or ends the statement.
func (c *Cluster) write(x *conn) {
	j := x.job
	if len(j.writes) == 0 {
		if j.ask.Own {
			c.commit(x)
		} else {
			c.finish(x, j.outcome, api.OK)
		}
		return
	}
	k := min(len(j.writes), writesAt)
	if x.driver.txn.Write(j.writes[:k]) != api.OK {
		c.finish(x, api.Outcome{}, api.ErrTxnAgain)
		return
	}
	j.writes = j.writes[k:]
	c.pump(x.node, x.driver)
}

func (c *Cluster) commit(x *conn) {
	x.job.phase = committing
	if x.driver.txn.Commit() != api.OK {
		c.finish(x, api.Outcome{}, api.ErrTxnAgain)
		return
	}
	if x.driver.txn.State() == txn.Over {
		x.job.readOnly = true
		c.await(x)
		return
	}
	c.pump(x.node, x.driver)
}

// await answers a commit when no clock can tell a moment at or ahead of its end any more.
func (c *Cluster) await(x *conn) {
	x.job.phase = waiting
	if x.node.memory.clock.Passed(x.driver.txn.End(), c.wall(x.node)) {
		c.finish(x, x.job.outcome, api.OK)
	}
}

// advance goes on with a job when its transaction has.
func (c *Cluster) advance(x *conn) {
	j := x.job
	if j == nil {
		return
	}
	state := x.driver.txn.State()
	switch {
	case j.phase == waiting:
		c.await(x)
	case state == txn.Busy:
	case state == txn.Committed:
		c.await(x)
	case state != txn.Idle:
		c.finish(x, api.Outcome{}, api.ErrTxnAgain)
	case j.phase == reading:
		j.spans = together(append(j.spans, j.needs[0]))
		for _, kv := range x.driver.txn.Rows() {
			j.rows[string(kv.Key)] = kv.Value
		}
		j.needs = j.needs[1:]
		if len(j.needs) > 0 {
			c.read(x)
		} else {
			c.run(x)
		}
	case j.phase == writing:
		c.write(x)
	}
}
