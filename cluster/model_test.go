package cluster_test

import (
	"fmt"
	"maps"
	"math/rand"
	"reflect"
	"slices"
	"strings"
	"testing"

	"cormorant/api"
	"cormorant/pgsession"
	"cormorant/pgwire"
	"cormorant/sqlexec"
	"cormorant/sqlparse"
)

// rows is all rows of a store that is one.
type rows map[string]string

// run does a statement on all rows, and writes what it writes.
func (r rows) run(s api.Stmt) (api.Outcome, api.Errno) {
	v := api.View{Spans: []api.Span{{To: []byte{255}}}}
	for _, k := range slices.Sorted(maps.Keys(r)) {
		v.Rows = append(v.Rows, api.KV{Key: []byte(k), Value: []byte(r[k])})
	}
	o, e := sqlexec.Run(s, v)
	if e != api.OK {
		return o, e
	}
	for _, op := range o.Writes {
		if len(op.Key) > api.MaxRowKey || len(op.Value) > api.MaxRow || len(o.Writes) > 2000 {
			return api.Outcome{}, api.ErrRowLong
		}
	}
	for _, op := range o.Writes {
		if op.Del {
			delete(r, string(op.Key))
		} else {
			r[string(op.Key)] = string(op.Value)
		}
	}
	return o, api.OK
}

// alone is what a session sends whose host does each statement on all rows, one transaction after the other.
func alone(r *rows, s *pgsession.Session, open *rows, b []byte) []byte {
	out := s.Feed(b)
	for {
		a := s.Ask()
		switch a.Kind {
		case pgsession.AskNone:
			return out
		case pgsession.AskBegin:
			*open = maps.Clone(*r)
			out = append(out, s.Answer(api.Outcome{}, api.OK)...)
		case pgsession.AskCommit:
			*r = *open
			out = append(out, s.Answer(api.Outcome{}, api.OK)...)
		case pgsession.AskAbort:
			out = append(out, s.Answer(api.Outcome{}, api.OK)...)
		case pgsession.AskRun:
			on := *open
			if a.Own {
				on = *r
			}
			o, e := on.run(a.Stmt)
			out = append(out, s.Answer(o, e)...)
		}
	}
}

// P25.6
func TestExactness(t *testing.T) {
	r := rand.New(rand.NewSource(256))
	for n := range 12 {
		nodes, offset := 1+n%5, []int{0, 2, 7, 30}[r.Intn(4)]
		w := start(t, nodes, offset)
		model, open := rows{}, rows{}
		s, _ := pgsession.New(1, 1+n%nodes)
		calm := func(k int) { w.do(fmt.Sprint("calm ", (60+offset)*k)) }
		w.do(fmt.Sprint("connect 1 ", 1+n%nodes))
		calm(1)
		w.send(1, startup)
		want := alone(&model, s, &open, startup)
		for range 25 {
			text, count := script(r)
			if r.Intn(6) == 0 {
				w.do(fmt.Sprintf("split %d 02800000000000000%d", 1+r.Intn(nodes), 1+r.Intn(3)))
			}
			for _, g := range w.Ranges(1) {
				w.do(fmt.Sprintf("compact %d %d", 1+r.Intn(nodes), g))
			}
			w.send(1, query(text))
			calm(max(count, 1))
			want = append(want, alone(&model, s, &open, query(text))...)
			if got := w.Out(1); string(got) != string(want) {
				t.Fatalf("%d nodes, %s:\n%s\n%s", nodes, text, show(t, got), show(t, want))
			}
		}
	}
}

// script is a query, and how many statements it has.
func script(r *rand.Rand) (string, int) {
	var l []string
	for range 1 + r.Intn(4) {
		l = append(l, statement(r))
	}
	return strings.Join(l, "; "), len(l)
}

func statement(r *rand.Rand) string {
	t := []string{"t", "u"}[r.Intn(2)]
	n := func(k int) string { return fmt.Sprint(r.Intn(k)) }
	switch r.Intn(16) {
	case 0:
		return "create table " + t + " (a int primary key, b int, c text unique)"
	case 1:
		return []string{"create index " + t + "b on " + t + " (b)", "drop index " + t + "b", "drop table " + t}[r.Intn(3)]
	case 2, 3, 4, 5:
		return "insert into " + t + " values (" + n(20) + ", " + n(5) + ", '" + n(30) + "'), (" + n(20) + ", null, null)"
	case 6:
		return "update " + t + " set b = b + 1 where a < " + n(20)
	case 7:
		return "update " + t + " set a = a + 100, c = null where b = " + n(5)
	case 8:
		return "delete from " + t + " where a = " + n(20)
	case 9:
		return []string{"begin", "commit", "rollback"}[r.Intn(3)]
	case 10:
		return []string{"select 1 / 0", "selec", "select * from none", "insert into " + t + " (a, c) values (7, '" + strings.Repeat("x", 200) + "')"}[r.Intn(4)]
	case 11:
		return "select t.a, u.a from t join u on t.b = u.a where u.b > 1"
	case 12:
		return "select b, count(*), sum(a) from " + t + " group by b order by b"
	}
	return "select * from " + t + " where b >= " + n(5) + " order by a desc"
}

// asked is a query of one statement, and when it was sent, and answered.
type asked struct {
	text             string
	stmt             api.Stmt
	sent, answeredAt int
}

// client sends queries, one after the other.
type client struct {
	conn    int
	queries []asked
	answers []string // of each query, once there is one
}

// chaos is a script that is made at random.
type chaos struct {
	*world
	r       *rand.Rand
	nodes   int
	step    int
	members bool
	clients map[int]*client
	before  []api.Commit
}

// answersOf divides what came on a connection: an answer ends with Z.
func answersOf(t *testing.T, b []byte) []string {
	var l []string
	var now []byte
	first := true
	for len(b) > 0 {
		m, n, e := pgwire.Take(b)
		if e != api.OK {
			t.Fatalf("Take: %d", e)
		}
		now = append(now, b[:n]...)
		b = b[n:]
		if m.Kind == api.BackReady {
			if !first {
				l = append(l, show(t, now))
			}
			first = false
			now = nil
		}
	}
	return l
}

// look takes up what has been answered.
func (c *chaos) look() {
	for _, x := range c.clients {
		l := answersOf(c.t, c.Out(x.conn))
		for i := len(x.answers); i < len(l); i++ {
			x.queries[i].answeredAt = c.step
		}
		x.answers = l
	}
	order := c.Order()
	k := 0
	for _, o := range order {
		if k < len(c.before) && reflect.DeepEqual(o, c.before[k]) {
			k++
		}
	}
	if k < len(c.before) {
		c.t.Fatalf("Order has lost one: %v, %v", c.before, order)
	}
	c.before = order
}

func (c *chaos) line(format string, l ...any) { c.Do(fmt.Sprintf(format, l...)) }

// act does something.
func (c *chaos) act() {
	r := c.r
	node := 1 + r.Intn(c.nodes)
	flight := c.Flight()
	switch k := r.Intn(100); {
	case k < 30 && len(flight) > 0:
		id := flight[r.Intn(min(len(flight), 20))]
		c.line("%s %d", []string{"deliver", "deliver", "deliver", "deliver", "drop", "double"}[r.Intn(6)], id)
	case k < 45:
		c.line("tick %d", node)
	case k < 60:
		c.line("calm %d", 1+r.Intn(4))
	case k < 62:
		c.line("crash %d %d %d", node, r.Intn(300), r.Intn(300))
	case k < 68:
		c.line("start %d", node)
	case k < 69:
		c.line("arm %d %d %d", node, 1+r.Intn(200), r.Intn(100))
	case k < 71:
		c.line("skew %d %d", node, r.Intn(9)-4)
	case k < 72:
		c.line("split %d 02800000000000000%d80000000000000%02x", node, 1+r.Intn(2), r.Intn(3))
	case k < 74:
		c.line("compact %d %d", node, append(c.Ranges(node), 1)[0])
	case k < 75 && c.members:
		c.line("change %d 1 %s", node, []string{"12", "123", "23", "13", "1"}[r.Intn(5)])
	case k < 76:
		c.line("close %d", 1+r.Intn(16))
	case k < 80:
		c.connectOne(node)
	default:
		c.query()
	}
}

func (c *chaos) connectOne(node int) {
	conn := len(c.clients) + 1
	if conn > 15 || c.Do(fmt.Sprintf("connect %d %d", conn, node)) != api.OK {
		return
	}
	c.clients[conn] = &client{conn: conn}
	c.Send(conn, startup)
}

// query lets a client that waits for nothing send something.
func (c *chaos) query() {
	for _, conn := range c.r.Perm(16) {
		x := c.clients[conn]
		if x == nil || !c.Open(conn) || len(x.answers) < len(x.queries) {
			continue
		}
		text := c.text()
		l, f := sqlparse.Parse(text)
		if f.Code != api.OK {
			c.t.Fatal(text)
		}
		x.queries = append(x.queries, asked{text: text, stmt: l[0], sent: c.step})
		c.Send(conn, query(text))
		return
	}
}

func (c *chaos) text() string {
	r := c.r
	n := func(k int) string { return fmt.Sprint(r.Intn(k)) }
	switch r.Intn(12) {
	case 0:
		return "begin"
	case 1, 2:
		return "commit"
	case 3:
		return "insert into t values (" + n(12) + ", " + n(5) + ")"
	case 4:
		return "update t set b = b + 1 where a = " + n(12)
	case 5:
		return "update t set b = b + 1"
	case 6:
		return "delete from t where a = " + n(12)
	case 7:
		return "select * from t where a = " + n(12)
	case 8:
		return "insert into u values (" + n(12) + ", " + n(5) + ")"
	case 9:
		return "update u set b = b * 2 where b = " + n(5)
	case 10:
		return "select * from t, u where t.b = u.b"
	}
	return "select * from t"
}

// told is what a client is told of an outcome.
func told(t *testing.T, o api.Outcome) string {
	s, _ := pgsession.New(1, 1)
	s.Feed(startup)
	s.Feed(query("select 1"))
	return strings.TrimSuffix(show(t, s.Answer(o, api.OK)), "; Z I")
}

// check executes the transactions of Order one after the other.
func (c *chaos) check(model rows) {
	in := map[[2]int]int{} // places of queries in the order
	order := c.Order()
	for place, o := range order {
		x := c.clients[o.Conn]
		for _, q := range o.Queries {
			in[[2]int{o.Conn, q}] = place
			out, e := model.run(x.queries[q].stmt)
			if e != api.OK {
				c.t.Fatalf("%s of the connection %d: %d", x.queries[q].text, o.Conn, e)
			}
			if q < len(x.answers) {
				got := strings.TrimSuffix(strings.TrimSuffix(x.answers[q], "; Z I"), "; Z T")
				if want := told(c.t, out); got != want {
					c.t.Fatalf("%s of the connection %d: %s, want %s", x.queries[q].text, o.Conn, got, want)
				}
			}
		}
	}
	c.checkAnswered(in)
	for a, x := range order {
		for b, y := range order {
			if end := c.endOf(x); end > 0 && end < c.startOf(y) && a > b {
				c.t.Fatalf("%v was answered before %v began, and comes behind it", x, y)
			}
		}
	}
}

// checkAnswered checks that whatever was answered as committed is in the order.
func (c *chaos) checkAnswered(in map[[2]int]int) {
	for conn, x := range c.clients {
		var inside []int
		for q, a := range x.answers {
			switch {
			case strings.Contains(a, "E "):
				inside = nil
			case x.queries[q].text == "begin":
			case x.queries[q].text == "commit":
				for _, i := range inside {
					if _, ok := in[[2]int{conn, i}]; !ok && strings.HasPrefix(a, "C COMMIT") {
						c.t.Fatalf("query %d of the connection %d is not in the order", i, conn)
					}
				}
				inside = nil
			case strings.HasSuffix(a, "Z T"):
				inside = append(inside, q)
			default:
				if _, ok := in[[2]int{conn, q}]; !ok {
					c.t.Fatalf("query %d of the connection %d (%s: %s) is not in the order", q, conn, x.queries[q].text, a)
				}
			}
		}
	}
}

// endOf is when a transaction's commit was answered, startOf when its first byte was sent.
func (c *chaos) endOf(o api.Commit) int {
	x := c.clients[o.Conn]
	q := o.Queries[len(o.Queries)-1]
	if q >= len(x.answers) {
		return 0
	}
	if strings.HasSuffix(x.answers[q], "Z T") {
		for q++; q < len(x.answers); q++ {
			if x.queries[q].text == "commit" {
				return x.queries[q].answeredAt
			}
		}
		return 0
	}
	return x.queries[q].answeredAt
}

func (c *chaos) startOf(o api.Commit) int {
	x := c.clients[o.Conn]
	q := o.Queries[0]
	for q > 0 && strings.HasSuffix(x.answers[q-1], "Z T") {
		q--
	}
	return x.queries[q].sent
}

// P25.4, P25.5
func TestChaos(t *testing.T) {
	committed := 0
	for seed := range int64(60) {
		r := rand.New(rand.NewSource(seed))
		nodes := 1 + r.Intn(4)
		offset := r.Intn(6)
		c := &chaos{world: start(t, nodes, offset), r: r, nodes: nodes, clients: map[int]*client{}, members: seed%4 == 3}
		c.connect(16, 1)
		model := rows{}
		first := []string{"create table t (a int primary key, b int)", "create table u (a int primary key, b int)", "create index ub on u (b)", "insert into t values (1, 1), (2, 2), (3, 3)"}
		for _, text := range first {
			c.send(16, query(text))
			c.do("calm 80")
		}
		c.clients[16] = &client{conn: 16}
		for _, text := range first {
			l, _ := sqlparse.Parse(text)
			c.clients[16].queries = append(c.clients[16].queries, asked{text: text, stmt: l[0]})
		}
		for c.step = 1; c.step < 500; c.step++ {
			c.act()
			c.look()
		}
		if !c.members {
			c.finish(model)
		} else {
			c.check(model)
		}
		committed += len(c.Order())
	}
	if committed < 1000 {
		t.Errorf("only %d have committed", committed)
	}
}

// finish lets all nodes start, and reads all that is there.
func (c *chaos) finish(model rows) {
	for i := range c.nodes {
		c.line("start %d", i+1)
		c.line("arm %d 0 0", i+1)
	}
	c.line("calm %d", 155)
	c.look()
	for i := range 16 {
		if i > 0 && i < 16 && c.clients[i] != nil {
			c.line("close %d", i)
		}
	}
	conn := len(c.clients)
	for c.clients[conn] != nil {
		conn++
	}
	if conn > 15 {
		c.check(model)
		return
	}
	if e := c.Do(fmt.Sprintf("connect %d %d", conn, 1+c.r.Intn(c.nodes))); e != api.OK {
		c.t.Fatalf("connect: %d", e)
	}
	x := &client{conn: conn}
	c.clients[conn] = x
	c.Send(conn, startup)
	for _, text := range []string{"select * from t", "select * from u", "select b from u where b >= 0"} {
		l, _ := sqlparse.Parse(text)
		x.queries = append(x.queries, asked{text: text, stmt: l[0], sent: c.step})
		c.step++
		c.Send(conn, query(text))
		c.line("calm %d", 155)
		c.look()
		if len(x.answers) != len(x.queries) || strings.Contains(x.answers[len(x.answers)-1], "E ") {
			c.t.Fatalf("%s is not answered: %v", text, x.answers)
		}
	}
	c.check(model)
}

// P1: whatever fails, transfers between rows leave their sum as it is, to whoever looks.
func TestTransfers(t *testing.T) {
	sums, moved := 0, 0
	for seed := range int64(12) {
		r := rand.New(rand.NewSource(seed + 900))
		nodes := 2 + r.Intn(3)
		w := start(t, nodes, r.Intn(4))
		w.connect(16, 1)
		for _, text := range []string{"create table t (a int primary key, b int)", "insert into t values (1, 100), (2, 100), (3, 100), (4, 100)"} {
			w.send(16, query(text))
			w.do("calm 80")
		}
		w.do("split 1 028000000000000001800000000000000101800000000000000300", "calm 60")
		status := map[int]string{}
		seen := map[int]int{}
		conns := 0
		for range 400 {
			node := 1 + r.Intn(nodes)
			flight := w.Flight()
			switch k := r.Intn(20); {
			case k < 6 && len(flight) > 0:
				w.Do(fmt.Sprintf("%s %d", []string{"deliver", "deliver", "deliver", "drop", "double"}[r.Intn(5)], flight[r.Intn(min(len(flight), 9))]))
			case k < 9:
				w.Do(fmt.Sprint("tick ", node))
			case k < 13:
				w.Do(fmt.Sprint("calm ", 1+r.Intn(6)))
			case k == 13 && r.Intn(4) == 0:
				w.Do(fmt.Sprint("crash ", node))
			case k == 14:
				w.Do(fmt.Sprint("start ", node))
			case k == 15 && conns < 15 && w.Up(node):
				conns++
				w.Do(fmt.Sprintf("connect %d %d", conns, node))
				w.Send(conns, startup)
				status[conns] = "I"
			default:
				for conn := 1; conn <= conns; conn++ {
					l := answersOf(t, w.Out(conn))
					if !w.Open(conn) || len(l) < seen[conn] {
						continue
					}
					text := fmt.Sprintf("begin; update t set b = b - 1 where a = %d; update t set b = b + 1 where a = %d; commit", 1+r.Intn(4), 1+r.Intn(4))
					if len(l) > 0 && strings.HasSuffix(l[len(l)-1], "Z E") {
						text = "rollback"
					} else if r.Intn(3) == 0 {
						text = "select sum(b) from t"
					}
					w.Send(conn, query(text))
					seen[conn]++
				}
			}
		}
		for conn := 1; conn <= conns; conn++ {
			for _, a := range answersOf(t, w.Out(conn)) {
				if strings.HasPrefix(a, "T; D ") {
					sums++
					if a != "T; D 400; C SELECT 1; Z I" {
						t.Fatalf("the seed %d, the connection %d: %s", seed, conn, a)
					}
				}
				if strings.HasSuffix(a, "C COMMIT; Z I") {
					moved++
				}
			}
		}
	}
	if sums < 150 || moved < 150 {
		t.Errorf("only %d sums and %d transfers", sums, moved)
	}
}
