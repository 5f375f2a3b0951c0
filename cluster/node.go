package cluster

import (
	"bytes"
	"maps"
	"math/bits"
	"slices"

	"cormorant/api"
	"cormorant/hlc"
	"cormorant/lsm"
	"cormorant/multiraft"
	"cormorant/replica"
	"cormorant/vdisk"
)

const (
	firstWait  = 5
	memBytes   = 131072
	blockBytes = 4096
	perKey     = 10
	fanout     = 4
)

// node is what a node has while it is up and while it is not.
type node struct {
	id     int
	disk   *vdisk.Disk
	skew   int
	wait   int
	memory *memory // nil: it is not up
}

// memory is what is lost when a node fails.
type memory struct {
	node     *node
	multi    *multiraft.Multi
	machines map[int]*machine
	clock    *hlc.Clock
	ranges   []api.Range            // that the machines have
	waiting  map[int]map[int]caller // of each group: who waits for the entry at an index
	reports  map[int]report         // of each group
	hints    map[int]int            // of each group: who may lead it
	offers   map[offer]int          // that were made since the last tick
	drivers  []*driver
	calls    map[int]*driver // by the numbers of their requests
}

// machine is a range's, with what was taken of it.
type machine struct {
	*replica.Machine
	taken map[string][]byte
}

func newMachine(m *replica.Machine) *machine {
	return &machine{Machine: m, taken: map[string][]byte{}}
}

// twin is another machine that is the same.
func (m *machine) twin() (*replica.Machine, api.Errno) {
	for _, op := range m.Take() {
		if op.Del {
			delete(m.taken, string(op.Key))
		} else {
			m.taken[string(op.Key)] = op.Value
		}
	}
	var l []api.KV
	for _, key := range slices.Sorted(maps.Keys(m.taken)) {
		l = append(l, api.KV{Key: []byte(key), Value: m.taken[key]})
	}
	return replica.Load(l)
}

// heights are those of the memtable's nodes: each level has a quarter of the one below.
func heights() []int {
	l := make([]int, api.MaxHeights)
	for i := range l {
		l[i] = 1 + bits.TrailingZeros(uint(i+1))/2
	}
	return l
}

// isStoreError tells whether an error is that of the layers below a node's groups.
func isStoreError(e api.Errno) bool { return e >= api.ErrCodecShort && e < api.ErrClockForm }

// start opens what lies on a node's disk.
func (c *Cluster) start(n *node) api.Errno {
	store, _, e := lsm.Open(n.disk, api.StoreConfig{MemBytes: memBytes, BlockBytes: blockBytes, PerKey: perKey, Fanout: fanout, Heights: heights()})
	if e != api.OK {
		return e
	}
	multi, e := multiraft.Open(store, n.id)
	if e != api.OK {
		return e
	}
	clock, e := hlc.New(c.offset)
	if e != api.OK {
		return e
	}
	m := &memory{
		node: n, multi: multi, machines: map[int]*machine{}, clock: clock, waiting: map[int]map[int]caller{},
		reports: map[int]report{}, hints: map[int]int{}, offers: map[offer]int{}, calls: map[int]*driver{},
	}
	if !slices.Contains(multi.Groups(), firstRange) {
		if e := multi.Create(firstRange, c.everybody()); e != api.OK {
			return e
		}
	}
	n.memory = m
	for _, g := range multi.Groups() {
		m.recall(g)
		m.survey()
		c.apply(n, g)
		if n.memory != m {
			return api.ErrClusterNode
		}
	}
	return api.OK
}

func (c *Cluster) everybody() []int {
	var l []int
	for _, n := range c.nodes {
		l = append(l, n.id)
	}
	return l
}

// recall makes a group's machine of its state and of the entries that were applied.
func (m *memory) recall(g int) {
	log, state, e := m.multi.Log(g)
	if e != api.OK {
		return
	}
	s, e := m.multi.Status(g)
	if e != api.OK || s.Applied < s.Start {
		return
	}
	x, ok := firstMachine(g, s.Start, state)
	if !ok {
		return
	}
	for _, entry := range log.Slice(s.Start+1, s.Applied-s.Start) {
		if cmd, ok := command(entry); ok {
			x.do(entry.Index, cmd)
		}
	}
	m.machines[g] = x
}

// firstMachine is a group's machine as of its log's start, if it has one.
func firstMachine(g, start int, state []byte) (*machine, bool) {
	var x *replica.Machine
	var e api.Errno
	switch {
	case start > 0:
		x, e = replica.Restore(state)
	case g == firstRange:
		x, e = replica.New(api.Span{})
	default:
		return nil, false
	}
	return newMachine(x), e == api.OK
}

// survey lists the ranges that the machines have.
func (m *memory) survey() {
	m.ranges = nil
	for _, g := range slices.Sorted(maps.Keys(m.machines)) {
		m.ranges = append(m.ranges, api.Range{Id: g, Gen: 1, Span: m.machines[g].Span()})
	}
	slices.SortStableFunc(m.ranges, func(a, b api.Range) int { return bytes.Compare(a.Span.From, b.Span.From) })
}

// fail lets a node lose all but its disk.
func (c *Cluster) fail(n *node) {
	if n.memory == nil {
		return
	}
	n.memory = nil
	for _, x := range c.connsOf(n) {
		x.lost()
	}
}

// sound tells whether a call of the groups' left the store well; a node whose store is not fails.
func (c *Cluster) sound(n *node, e api.Errno) bool {
	if isStoreError(e) {
		c.fail(n)
		return false
	}
	return true
}

// wall is what a node's wall clock says.
func (c *Cluster) wall(n *node) int { return max(0, c.time+n.skew) }

// tick lets a node's time pass.
func (c *Cluster) tick(n *node) {
	m := n.memory
	if m == nil {
		return
	}
	m.offers = map[offer]int{}
	for _, g := range m.multi.Groups() {
		l, e := m.multi.Tick(g, n.wait)
		if !c.sound(n, e) {
			return
		}
		c.sendRaft(n, l)
		c.apply(n, g)
		if n.memory != m {
			return
		}
	}
	for _, d := range slices.Clone(m.drivers) {
		c.wake(n, d)
		if n.memory != m {
			return
		}
	}
	for _, x := range c.connsOf(n) {
		if x.job != nil && x.job.phase == waiting {
			c.advance(x)
		}
	}
}
