package cluster_test

import (
	"fmt"
	"strings"
	"testing"

	"cormorant/api"
	"cormorant/cluster"
	"cormorant/pgwire"
)

func front(f api.Front) []byte {
	b, _ := pgwire.PutFront(f)
	return b
}

func query(text string) []byte { return front(api.Front{Kind: api.FrontQuery, Text: text}) }

var startup = front(api.Front{Kind: api.FrontStartup, Params: []api.Param{{Name: "user", Value: "x"}}})

// show is messages in short, but for those of the startup.
func show(t *testing.T, b []byte) string {
	t.Helper()
	var l []string
	for len(b) > 0 {
		m, n, e := pgwire.Take(b)
		if e != api.OK {
			t.Fatalf("Take: %d", e)
		}
		b = b[n:]
		switch m.Kind {
		case api.BackAuthOk:
			l = append(l, "R")
		case api.BackReady:
			l = append(l, "Z "+string(m.Status))
		case api.BackFields:
			l = append(l, "T")
		case api.BackRow:
			var c []string
			for _, x := range m.Cells {
				if x.Null {
					x.Text = "-"
				}
				c = append(c, x.Text)
			}
			l = append(l, "D "+strings.Join(c, ","))
		case api.BackComplete:
			l = append(l, "C "+m.Text)
		case api.BackEmpty:
			l = append(l, "I")
		case api.BackError:
			s := "E " + m.State
			if m.Fatal {
				s = "FATAL " + m.State
			}
			l = append(l, s)
		case api.BackRefuse:
			l = append(l, "N")
		}
	}
	return strings.Join(l, "; ")
}

// world is a cluster, and what of each connection's output was looked at.
type world struct {
	*cluster.Cluster
	t    *testing.T
	seen map[int]int
}

func start(t *testing.T, nodes, offset int) *world {
	t.Helper()
	c, e := cluster.New(nodes, offset)
	if e != api.OK {
		t.Fatalf("New: %d", e)
	}
	return &world{Cluster: c, t: t, seen: map[int]int{}}
}

// do does lines, all of which must be right.
func (w *world) do(lines ...string) {
	w.t.Helper()
	for _, l := range lines {
		if e := w.Do(l); e != api.OK {
			w.t.Fatalf("%s: %d", l, e)
		}
	}
}

// fresh is what has come on a connection since it was last asked.
func (w *world) fresh(conn int) string {
	w.t.Helper()
	out := w.Out(conn)
	s := show(w.t, out[w.seen[conn]:])
	w.seen[conn] = len(out)
	return s
}

// connect makes a connection, and starts it.
func (w *world) connect(conn, node int) {
	w.t.Helper()
	w.do(fmt.Sprintf("connect %d %d", conn, node))
	w.send(conn, startup)
	if s := w.fresh(conn); s != "R; Z I" {
		w.t.Fatalf("the startup: %s", s)
	}
}

func (w *world) send(conn int, b []byte) {
	w.t.Helper()
	if e := w.Send(conn, b); e != api.OK {
		w.t.Fatalf("Send: %d", e)
	}
}

// ask sends a query, waits, and checks what comes.
func (w *world) ask(conn int, text, want string) {
	w.t.Helper()
	w.send(conn, query(text))
	w.do("calm 70")
	if got := w.fresh(conn); got != want {
		w.t.Errorf("%s: %s, want %s", text, got, want)
	}
}

// The examples of the whole.
func TestExamples(t *testing.T) {
	for _, nodes := range []int{1, 3, 5} {
		w := start(t, nodes, 2)
		w.connect(1, 1)
		w.ask(1, "create table t (a int primary key, b int)", "C CREATE TABLE; Z I")
		w.ask(1, "insert into t values (1, 2)", "C INSERT 0 1; Z I")
		w.ask(1, "select * from t", "T; D 1,2; C SELECT 1; Z I")
		w.connect(2, nodes)
		w.ask(1, "begin; update t set b = 3", "C BEGIN; C UPDATE 1; Z T")
		w.ask(2, "select b from t", "T; D 2; C SELECT 1; Z I")
		w.ask(1, "commit", "E 40001; Z I")
		w.ask(2, "select 1 / 0", "E 22012; Z I")
	}
}
