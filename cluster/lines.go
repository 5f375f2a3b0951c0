package cluster

import (
	"strings"

	"cormorant/api"
)

const (
	mostNumber   = 1000000
	mostDigits   = 7
	mostRounds   = 2000
	mostMessages = 2000
)

// words are a line's words, as what they mean.
type words struct {
	numbers []int // of nodes, connections and all else
	key     []byte
	members []int
}

// line is a kind of lines: the form of its words, and what it does. The form has a letter for each word: a node, a number, one with a sign, a key, members; and at the end perhaps a star, for any number of numbers.
type line struct {
	form string
	do   func(c *Cluster, w words) api.Errno
}

func lines() map[string]line {
	return map[string]line{
		"time":    {form: "n", do: (*Cluster).lineTime},
		"skew":    {form: "Nd", do: (*Cluster).lineSkew},
		"wait":    {form: "Nn", do: (*Cluster).lineWait},
		"tick":    {form: "N", do: (*Cluster).lineTick},
		"deliver": {form: "n", do: (*Cluster).lineDeliver},
		"drop":    {form: "n", do: (*Cluster).lineDrop},
		"double":  {form: "n", do: (*Cluster).lineDouble},
		"connect": {form: "nN", do: (*Cluster).lineConnect},
		"close":   {form: "n", do: (*Cluster).lineClose},
		"crash":   {form: "N*", do: (*Cluster).lineCrash},
		"start":   {form: "N", do: (*Cluster).lineStart},
		"arm":     {form: "Nnn", do: (*Cluster).lineArm},
		"split":   {form: "Nk", do: (*Cluster).lineSplit},
		"change":  {form: "Nnm", do: (*Cluster).lineChange},
		"compact": {form: "Nn", do: (*Cluster).lineCompact},
		"calm":    {form: "n", do: (*Cluster).lineCalm},
	}
}

// Do does a line.
func (c *Cluster) Do(text string) api.Errno {
	parts := strings.Split(text, " ")
	l, ok := lines()[parts[0]]
	if !ok {
		return api.ErrClusterLine
	}
	w, ok := parse(l.form, parts[1:])
	if !ok {
		return api.ErrClusterLine
	}
	if !c.known(l.form, w) {
		return api.ErrClusterNode
	}
	e := l.do(c, w)
	c.settle()
	return e
}

// known tells whether all nodes that are named are there.
func (c *Cluster) known(form string, w words) bool {
	for i, f := range form {
		if f == 'N' && c.node(w.numbers[i]) == nil {
			return false
		}
	}
	for _, n := range w.members {
		if c.node(n) == nil {
			return false
		}
	}
	return true
}

func parse(form string, parts []string) (words, bool) {
	var w words
	rest, many := strings.CutSuffix(form, "*")
	if len(parts) < len(rest) || !many && len(parts) > len(rest) {
		return w, false
	}
	for i, part := range parts {
		kind := byte('n')
		if i < len(rest) {
			kind = rest[i]
		}
		if !w.take(kind, part) {
			return w, false
		}
	}
	return w, true
}

// take takes a word of a kind.
func (w *words) take(kind byte, part string) bool {
	ok := true
	n := 0
	switch kind {
	case 'k':
		w.key, ok = takeKey(part)
		return ok
	case 'm':
		w.members, ok = takeMembers(part)
		return ok
	case 'd':
		digits, negative := strings.CutPrefix(part, "-")
		n, ok = takeNumber(digits)
		if negative {
			n, ok = -n, ok && n != 0
		}
	default:
		n, ok = takeNumber(part)
	}
	w.numbers = append(w.numbers, n)
	return ok
}

func takeNumber(s string) (int, bool) {
	if s == "" || len(s) > mostDigits || len(s) > 1 && s[0] == '0' {
		return 0, false
	}
	n := 0
	for _, c := range []byte(s) {
		if c < '0' || c > '9' {
			return 0, false
		}
		n = n*10 + int(c-'0')
	}
	return n, n <= mostNumber
}

func takeKey(s string) ([]byte, bool) {
	if s == "" || len(s)%2 > 0 || len(s) > 2*api.MaxRowKey {
		return nil, false
	}
	const digits = "0123456789abcdef"
	var key []byte
	for i := 0; i < len(s); i += 2 {
		high, low := strings.IndexByte(digits, s[i]), strings.IndexByte(digits, s[i+1])
		if high < 0 || low < 0 {
			return nil, false
		}
		key = append(key, byte(high<<4|low))
	}
	return key, true
}

func takeMembers(s string) ([]int, bool) {
	var l []int
	for i, c := range []byte(s) {
		if c < '1' || c > '0'+api.MaxNodes || i > 0 && s[i-1] >= c {
			return nil, false
		}
		l = append(l, int(c-'0'))
	}
	return l, len(l) > 0
}

func (c *Cluster) lineTime(w words) api.Errno {
	c.time = max(c.time, w.numbers[0])
	return api.OK
}

func (c *Cluster) lineSkew(w words) api.Errno {
	half := c.offset / 2
	c.node(w.numbers[0]).skew = max(-half, min(half, w.numbers[1]))
	return api.OK
}

func (c *Cluster) lineWait(w words) api.Errno {
	c.node(w.numbers[0]).wait = w.numbers[1]
	return api.OK
}

func (c *Cluster) lineTick(w words) api.Errno {
	c.tick(c.node(w.numbers[0]))
	return api.OK
}

func (c *Cluster) lineDeliver(w words) api.Errno { return c.deliver(w.numbers[0]) }

// deliver lets a message arrive, if its node is up.
func (c *Cluster) deliver(id int) api.Errno {
	x, e := c.net.Deliver(id)
	if e != api.OK {
		return e
	}
	if n := c.node(x.To); n != nil && n.memory != nil {
		c.arrive(n, x.From, x.Kind, x.Body)
	}
	return api.OK
}

func (c *Cluster) lineDrop(w words) api.Errno { return c.net.Drop(w.numbers[0]) }

func (c *Cluster) lineDouble(w words) api.Errno {
	_, e := c.net.Double(w.numbers[0])
	return e
}

func (c *Cluster) lineConnect(w words) api.Errno {
	id, n := w.numbers[0], c.node(w.numbers[1])
	if n.memory == nil {
		return api.ErrClusterNode
	}
	if id < 1 || id > mostConns || c.conns[id] != nil {
		return api.ErrClusterConn
	}
	return c.connect(id, n)
}

func (c *Cluster) lineClose(w words) api.Errno {
	x := c.conns[w.numbers[0]]
	if x == nil || !x.open {
		return api.ErrClusterConn
	}
	c.hangUp(x)
	return api.OK
}

func (c *Cluster) lineCrash(w words) api.Errno {
	n := c.node(w.numbers[0])
	c.fail(n)
	n.disk.Restart(w.numbers[1:])
	return api.OK
}

func (c *Cluster) lineStart(w words) api.Errno {
	n := c.node(w.numbers[0])
	if n.memory != nil {
		return api.ErrClusterNode
	}
	if n.disk.Off() {
		n.disk.Restart(nil)
	}
	if c.start(n) != api.OK {
		return api.ErrClusterNode
	}
	return api.OK
}

func (c *Cluster) lineArm(w words) api.Errno {
	n := c.node(w.numbers[0])
	if n.memory == nil {
		return api.ErrClusterNode
	}
	return n.disk.Arm(w.numbers[1], w.numbers[2])
}

func (c *Cluster) lineSplit(w words) api.Errno {
	c.split(c.node(w.numbers[0]), w.key)
	return api.OK
}

func (c *Cluster) lineChange(w words) api.Errno {
	c.change(c.node(w.numbers[0]), w.numbers[1], w.members)
	return api.OK
}

func (c *Cluster) lineCompact(w words) api.Errno {
	c.compact(c.node(w.numbers[0]), w.numbers[1])
	return api.OK
}

func (c *Cluster) lineCalm(w words) api.Errno {
	for range min(w.numbers[0], mostRounds) {
		c.time++
		for _, n := range c.nodes {
			c.tick(n)
			c.settle()
		}
		for range mostMessages {
			e, ok := c.net.At(0)
			if !ok {
				break
			}
			c.deliver(e.Id)
			c.settle()
		}
	}
	return api.OK
}
