package txn_test

import (
	"fmt"
	"math/rand"
	"slices"
	"sort"
	"testing"

	"cormorant/api"
	"cormorant/hlc"
	"cormorant/rangemeta"
	"cormorant/replica"
	"cormorant/txn"
)

// world is ranges, and requests and answers that are under way.
type world struct {
	t        *testing.T
	r        *rand.Rand
	table    *rangemeta.Table
	machines map[int]*replica.Machine
	flight   []letter
	clients  []*client
	ended    []int // the transactions that have committed, in the order in which that was applied
}

type letter struct {
	from   *client
	q      txn.Request
	answer *api.Res
}

// client is a transaction that reads and writes at random.
type client struct {
	x     *txn.Txn
	id    int
	steps int
	log   []step
	now   step
	gone  bool
}

// step is a read with what it found, or a write.
type step struct {
	span  api.Span
	rows  []api.KV
	ops   []api.Op
	reads bool
}

func (w *world) apply(group int, c api.Cmd) api.Res {
	m := w.machines[group]
	r, other := m.Apply(c)
	if other != nil {
		w.machines[c.By] = other
		if e := w.table.Split(group, c.Key, c.By); e != api.OK {
			w.t.Fatalf("Split: %d", e)
		}
	}
	if c.Kind == api.CmdEnd && c.Yes && r.Code == api.OK && !slices.Contains(w.ended, c.Txn) {
		w.ended = append(w.ended, c.Txn)
	}
	return r
}

func (w *world) key() []byte { return []byte(fmt.Sprintf("k%02d", w.r.Intn(8))) }

// act lets a client go on.
func (w *world) act(c *client) {
	if c.x.State() == txn.Idle {
		if c.now.ops != nil || c.now.reads {
			c.now.rows = c.x.Rows()
			c.log = append(c.log, c.now)
			c.now = step{}
		}
		c.steps--
		switch {
		case c.steps <= 0 && w.r.Intn(10) == 0:
			c.x.Abort()
			c.gone = true
		case c.steps <= 0:
			c.x.Commit()
		case w.r.Intn(2) == 0:
			c.now = step{reads: true, span: api.Span{From: w.key()}}
			if w.r.Intn(2) == 0 {
				c.now.span.To = append(slices.Clone(c.now.span.From), 'z')
			}
			c.x.Read(c.now.span)
		default:
			for range 1 + w.r.Intn(3) {
				c.now.ops = append(c.now.ops, api.Op{Key: w.key(), Value: []byte(fmt.Sprint(c.id, ".", c.steps))})
			}
			if w.r.Intn(4) == 0 {
				c.now.ops[0] = api.Op{Del: true, Key: w.key()}
			}
			c.x.Write(c.now.ops)
		}
	}
	l := w.table.List()
	if w.r.Intn(3) == 0 {
		l = []api.Range{{Id: 1, Gen: 1}}
	}
	if q, ok := c.x.Next(l); ok {
		w.flight = append(w.flight, letter{from: c, q: q})
	}
}

// deliver lets something arrive, that perhaps arrives again.
func (w *world) deliver() {
	k := w.r.Intn(len(w.flight))
	x := w.flight[k]
	if w.r.Intn(8) > 0 {
		w.flight = slices.Delete(w.flight, k, k+1)
	}
	if w.r.Intn(12) == 0 {
		return
	}
	if x.answer == nil {
		r := w.apply(x.q.Range, x.q.Cmd)
		x.answer = &r
		w.flight = append(w.flight, x)
		return
	}
	x.from.x.Answer(x.q, *x.answer)
}

// P16.5
func TestTheorem(t *testing.T) {
	committed := 0
	for seed := range int64(150) {
		w := &world{t: t, r: rand.New(rand.NewSource(seed)), table: rangemeta.New(), machines: map[int]*replica.Machine{}}
		w.machines[1], _ = replica.New(api.Span{})
		clock, _ := hlc.New(1000)
		active := []*client{}
		for range 1500 {
			if len(active) < 4 && len(w.clients) < 25 {
				now, _ := clock.Now(w.r.Intn(5) + len(w.clients))
				id := len(w.clients) + 1
				x, _ := txn.New(id, now, 2)
				c := &client{x: x, id: id, steps: 1 + w.r.Intn(5)}
				w.clients = append(w.clients, c)
				active = append(active, c)
			}
			switch {
			case w.r.Intn(300) == 0 && len(w.machines) < 5:
				if r := w.table.Find(w.key()); true {
					key := w.key()
					if string(key) > string(r.Span.From) && (len(r.Span.To) == 0 || string(key) < string(r.Span.To)) {
						w.apply(r.Id, api.Cmd{Kind: api.CmdSplit, Key: key, By: 1 + len(w.machines)})
					}
				}
			case len(active) > 0 && w.r.Intn(2) == 0:
				w.act(active[w.r.Intn(len(active))])
			case len(w.flight) > 0:
				w.deliver()
			}
			active = slices.DeleteFunc(active, func(c *client) bool { return c.x.State() == txn.Over })
		}
		committed += w.check()
	}
	if committed < 300 {
		t.Errorf("only %d have committed", committed)
	}
}

// check executes the transactions one after the other.
func (w *world) check() int {
	var done []*client
	for _, c := range w.clients {
		wrote := slices.ContainsFunc(c.log, func(s step) bool { return s.ops != nil })
		if slices.Contains(w.ended, c.id) || !wrote && !c.gone && c.x.State() == txn.Over && c.steps <= 0 && c.now.ops == nil && !c.now.reads {
			done = append(done, c)
		}
	}
	sort.SliceStable(done, func(i, j int) bool {
		a, b := done[i], done[j]
		if k := hlc.Compare(a.x.End(), b.x.End()); k != 0 {
			return k < 0
		}
		return slices.Index(w.ended, a.id) < slices.Index(w.ended, b.id) && slices.Index(w.ended, a.id) >= 0 || slices.Index(w.ended, b.id) < 0
	})
	now := map[string]string{}
	for _, c := range done {
		for _, s := range c.log {
			for _, op := range s.ops {
				if op.Del {
					delete(now, string(op.Key))
				} else {
					now[string(op.Key)] = string(op.Value)
				}
			}
			if !s.reads {
				continue
			}
			want := []string{}
			for k, v := range now {
				if k >= string(s.span.From) && (len(s.span.To) == 0 || k < string(s.span.To)) {
					want = append(want, k+"="+v)
				}
			}
			slices.Sort(want)
			got := []string{}
			for _, kv := range s.rows {
				got = append(got, string(kv.Key)+"="+string(kv.Value))
			}
			if !slices.Equal(got, want) {
				w.t.Fatalf("the transaction %d reads %v, not %v", c.id, got, want)
			}
		}
	}
	return len(done)
}
