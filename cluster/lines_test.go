package cluster_test

import (
	"bytes"
	"fmt"
	"math/rand"
	"reflect"
	"slices"
	"strings"
	"testing"

	"cormorant/api"
	"cormorant/cluster"
	"cormorant/pgwire"
)

// P25.1
func TestNew(t *testing.T) {
	for _, c := range [][2]int{{0, 0}, {6, 0}, {-1, 0}, {1, -1}, {1, 1001}} {
		if x, e := cluster.New(c[0], c[1]); x != nil || e != api.ErrArg {
			t.Errorf("New(%v): %d", c, e)
		}
	}
	start(t, 5, 1000)
	w := start(t, 2, 0)
	for n, want := range map[int]bool{0: false, 1: true, 2: true, 3: false, -1: false} {
		if w.Up(n) != want {
			t.Errorf("Up(%d)", n)
		}
	}
	if !slices.Equal(w.Ranges(2), []int{1}) || len(w.Ranges(3)) != 0 || w.Leads(1, 1) || w.Leads(9, 1) || w.Leads(1, 9) || len(w.Order()) != 0 || len(w.Flight()) != 0 || w.Open(1) || len(w.Out(1)) != 0 {
		t.Error("a new cluster")
	}
}

// P25.1
func TestLines(t *testing.T) {
	w := start(t, 3, 8)
	for _, l := range []string{
		"", " ", "x", "time", "time ", "time  5", " time 5", "time 5 ", "time 5 6", "time 05", "time -5", "time x", "time 1000001", "time 99999999999999999999", "time +5", "TIME 5", "skew 1", "skew 1 -0", "skew 1 --1", "skew 1 05", "skew 1 -", "wait 1", "tick", "tick 1 2", "deliver", "connect 1", "connect 1 1 1", "close", "crash", "crash x", "crash 1 ", "crash 1 -1", "start", "arm 1 1", "arm 1 1 -1",
		"split 1", "split 1 0", "split 1 0G", "split 1 0A", "split 1 ", "split 1 " + strings.Repeat("00", 111), "split 0x1 00", "change 1 1", "change 1 1 ", "change 1 1 21", "change 1 1 11", "change 1 1 6", "change 1 1 0", "change 1 1 12a", "compact 1", "calm", "calm -1", "calm 1 1",
	} {
		if e := w.Do(l); e != api.ErrClusterLine {
			t.Errorf("%q: %d", l, e)
		}
	}
	for l, want := range map[string]api.Errno{
		"time 1000000": api.OK, "time 0": api.OK, "skew 1 -4": api.OK, "skew 4 1": api.ErrClusterNode, "skew 0 1": api.ErrClusterNode, "wait 3 0": api.OK, "wait 4 1": api.ErrClusterNode, "tick 3": api.OK, "tick 5": api.ErrClusterNode, "deliver 99": api.ErrNetNone, "drop 99": api.ErrNetNone, "double 99": api.ErrNetNone, "connect 17 1": api.ErrClusterConn, "connect 0 1": api.ErrClusterConn, "connect 17 4": api.ErrClusterNode, "close 1": api.ErrClusterConn, "close 17": api.ErrClusterConn, "crash 4": api.ErrClusterNode, "start 1": api.ErrClusterNode, "start 4": api.ErrClusterNode, "arm 4 1 1": api.ErrClusterNode, "arm 1 0 0": api.OK,
		"split 1 " + strings.Repeat("0f", 110): api.OK, "split 4 00": api.ErrClusterNode, "change 1 1 12": api.OK, "change 1 99 12": api.OK, "change 4 1 12": api.ErrClusterNode, "change 1 1 14": api.ErrClusterNode, "compact 1 1": api.OK, "compact 1 1000000": api.OK, "compact 4 1": api.ErrClusterNode, "calm 0": api.OK,
	} {
		if e := w.Do(l); e != want {
			t.Errorf("%q: %d, want %d", l, e, want)
		}
	}
	w.do("crash 2", "crash 2 1 2 3", "tick 2", "wait 2 5", "skew 2 1", "split 2 00", "change 2 1 12", "compact 2 1")
	for l, want := range map[string]api.Errno{"connect 1 2": api.ErrClusterNode, "arm 2 1 1": api.ErrClusterNode} {
		if e := w.Do(l); e != want {
			t.Errorf("%q: %d, want %d", l, e, want)
		}
	}
	if w.Up(2) || len(w.Ranges(2)) != 0 || w.Leads(2, 1) {
		t.Error("a node that has failed")
	}
	w.do("start 2", "connect 1 2")
	if e := w.Do("connect 1 1"); e != api.ErrClusterConn || !w.Open(1) {
		t.Errorf("connect again: %d", e)
	}
	w.do("close 1")
	if e := w.Do("close 1"); e != api.ErrClusterConn || w.Open(1) {
		t.Errorf("close again: %d", e)
	}
	if e := w.Do("connect 1 1"); e != api.ErrClusterConn {
		t.Errorf("connect behind a close: %d", e)
	}
	if e := w.Send(1, startup); e != api.ErrClusterConn {
		t.Errorf("Send: %d", e)
	}
	if e := w.Send(2, startup); e != api.ErrClusterConn {
		t.Errorf("Send: %d", e)
	}
}

// What is under way: delivered, lost, doubled.
func TestFlight(t *testing.T) {
	w := start(t, 3, 0)
	w.do("wait 1 1", "tick 1")
	if l := w.Flight(); !slices.Equal(l, []int{1, 2}) {
		t.Fatalf("Flight: %v", l)
	}
	w.do("double 1", "drop 2")
	if l := w.Flight(); !slices.Equal(l, []int{1, 3}) {
		t.Fatalf("Flight: %v", l)
	}
	w.do("crash 2", "deliver 1", "start 2", "deliver 3")
	l := w.Flight()
	if !slices.Equal(l, []int{4}) || w.Leads(1, 1) {
		t.Fatalf("Flight: %v", l)
	}
	w.do("deliver 4")
	if !w.Leads(1, 1) || w.Leads(2, 1) {
		t.Error("the node 1 does not lead")
	}
	for range 600 {
		w.do("tick 1")
	}
	if l := w.Flight(); len(l) != api.MaxFlight {
		t.Errorf("%d are under way", len(l))
	}
	if e := w.Do(fmt.Sprint("double ", w.Flight()[0])); e != api.ErrNetFull {
		t.Errorf("double: %d", e)
	}
	w.do("calm 3")
	if l := w.Flight(); len(l) != 0 {
		t.Errorf("%d are under way", len(l))
	}
}

// Examples 4, 5, 6 of the whole: nodes fail.
func TestFailures(t *testing.T) {
	w := start(t, 3, 2)
	w.connect(1, 1)
	w.ask(1, "create table t (a int primary key, b int)", "C CREATE TABLE; Z I")
	w.ask(1, "insert into t values (1, 2)", "C INSERT 0 1; Z I")
	w.do("crash 1")
	if w.Open(1) || w.Up(1) {
		t.Error("it is open")
	}
	w.do("calm 62")
	w.connect(2, 2)
	w.ask(2, "select * from t", "T; D 1,2; C SELECT 1; Z I")
	w.do("crash 2", "crash 3", "start 1", "start 2", "start 3", "calm 100")
	w.connect(3, 3)
	w.ask(3, "select * from t", "T; D 1,2; C SELECT 1; Z I")
	w.send(3, query("insert into t values (5, 6)"))
	w.do("crash 3", "calm 60", "start 3", "calm 60")
	w.connect(4, 1)
	w.send(4, query("select count(*) from t"))
	w.do("calm 70")
	one := w.fresh(4)
	w.connect(5, 2)
	w.send(5, query("select count(*) from t"))
	w.do("calm 70")
	if two := w.fresh(5); one != two {
		t.Errorf("%s, then %s", one, two)
	}
	w.do("arm 1 3 0")
	w.send(4, query("insert into t values (7, 8)"))
	w.do("calm 40")
	if w.Up(1) || w.Open(4) {
		t.Error("it is up, though its disk has failed")
	}
	w.do("start 1", "calm 100")
	if !w.Up(1) {
		t.Error("it is not up")
	}
}

// Example 7, and P25.8: splits.
func TestSplits(t *testing.T) {
	w := start(t, 5, 0)
	w.connect(1, 2)
	w.ask(1, "create table t (a int primary key, b int); insert into t values (1, 1), (2, 2), (3, 3)", "C CREATE TABLE; C INSERT 0 3; Z I")
	leader := func(group int) int {
		for n := 1; n <= 5; n++ {
			if w.Leads(n, group) {
				return n
			}
		}
		return 0
	}
	first := leader(1)
	w.do(fmt.Sprintf("split %d 0280", first), "calm 60", fmt.Sprintf("split %d 01", first), "calm 60", fmt.Sprintf("split %d 0280", first), fmt.Sprintf("split %d 03", first), "calm 60")
	ranges := w.Ranges(1)
	if len(ranges) != 3 || ranges[0] != 1 {
		t.Fatalf("Ranges: %v", ranges)
	}
	for n := 1; n <= 5; n++ {
		if !slices.Equal(w.Ranges(n), ranges) {
			t.Errorf("Ranges(%d): %v", n, w.Ranges(n))
		}
	}
	for _, g := range ranges {
		if leader(g) == 0 {
			t.Errorf("nobody leads %d", g)
		}
	}
	w.ask(1, "select * from t", "T; D 1,1; D 2,2; D 3,3; C SELECT 3; Z I")
	w.ask(1, "begin; update t set b = b + 1; commit", "C BEGIN; C UPDATE 3; C COMMIT; Z I")
	w.ask(1, "select sum(b) from t", "T; D 9; C SELECT 1; Z I")
	for n := 1; n <= 5; n++ {
		for _, g := range ranges {
			w.do(fmt.Sprintf("compact %d %d", n, g))
		}
	}
	w.do("crash 1", "crash 4", "calm 60", "start 1", "start 4", "calm 60")
	w.connect(2, 4)
	w.ask(2, "select sum(b) from t", "T; D 9; C SELECT 1; Z I")
}

// Members change, and one that is far behind gets a state.
func TestMembers(t *testing.T) {
	w := start(t, 3, 0)
	w.connect(1, 1)
	w.ask(1, "create table t (a int primary key)", "C CREATE TABLE; Z I")
	if !w.Leads(1, 1) {
		t.Fatal("the node 1 does not lead")
	}
	w.do("crash 3", "change 1 1 12", "calm 20")
	w.ask(1, "insert into t values (1), (2)", "C INSERT 0 2; Z I")
	w.do("compact 1 1", "start 3", "wait 3 1000", "change 1 1 123", "calm 40")
	w.ask(1, "insert into t values (3)", "C INSERT 0 1; Z I")
	w.do("crash 1", "calm 60")
	w.connect(2, 3)
	w.ask(2, "select count(*) from t", "T; D 3; C SELECT 1; Z I")
	w.do("crash 2", "start 1", "wait 3 9", "calm 80")
	w.connect(3, 3)
	w.ask(3, "select count(*) from t", "T; D 3; C SELECT 1; Z I")
}

// A log is compacted only as far as all members have it: one that is behind finds the splits.
func TestCompactBehind(t *testing.T) {
	w := start(t, 3, 0)
	w.connect(1, 1)
	w.ask(1, "create table t (a int primary key); insert into t values (1), (2)", "C CREATE TABLE; C INSERT 0 2; Z I")
	w.do("crash 3", "split 1 0280", "calm 30", "compact 1 1", "compact 2 1", "calm 30")
	ranges := w.Ranges(1)
	if len(ranges) != 2 {
		t.Fatalf("Ranges: %v", ranges)
	}
	w.do("start 3", "calm 40")
	if !slices.Equal(w.Ranges(3), ranges) {
		t.Errorf("Ranges(3): %v", w.Ranges(3))
	}
	w.do("compact 1 1", "crash 1", "crash 2", "crash 3", "start 1", "start 2", "start 3", "calm 60")
	w.connect(2, 3)
	w.ask(2, "select count(*) from t", "T; D 2; C SELECT 1; Z I")
}

// A node that becomes a member of a group that it does not have is sent its state.
func TestNewMember(t *testing.T) {
	w := start(t, 3, 0)
	w.connect(1, 1)
	w.ask(1, "create table t (a int primary key); insert into t values (1), (2), (3)", "C CREATE TABLE; C INSERT 0 3; Z I")
	w.do("crash 3", "change 1 1 12", "calm 20", "split 1 0280", "calm 40")
	ranges := w.Ranges(1)
	if len(ranges) != 2 {
		t.Fatalf("Ranges: %v", ranges)
	}
	w.ask(1, "insert into t values (4)", "C INSERT 0 1; Z I")
	w.do("start 3", "wait 3 1000", "calm 20")
	if len(w.Ranges(3)) != 1 {
		t.Fatalf("Ranges(3): %v", w.Ranges(3))
	}
	for n := 1; n <= 2; n++ {
		for _, g := range ranges {
			w.do(fmt.Sprintf("change %d %d 123", n, g))
		}
	}
	w.do("calm 40")
	if !slices.Equal(w.Ranges(3), ranges) {
		t.Fatalf("Ranges(3): %v", w.Ranges(3))
	}
	w.do("crash 1", "calm 60")
	w.connect(2, 3)
	w.ask(2, "select count(*) from t", "T; D 4; C SELECT 1; Z I")
	w.do("crash 3", "start 3", "start 1", "calm 60")
	w.connect(3, 3)
	w.ask(3, "select count(*) from t", "T; D 4; C SELECT 1; Z I")
}

// Example 9: the wait of a commit.
func TestCommitWait(t *testing.T) {
	for _, offset := range []int{0, 4, 9} {
		w := start(t, 1, offset)
		w.connect(1, 1)
		w.ask(1, "create table t (a int primary key)", "C CREATE TABLE; Z I")
		for _, text := range []string{"insert into t values (1)", "select * from t"} {
			w.send(1, query(text))
			for i := range offset + 1 {
				if s := w.fresh(1); s != "" {
					t.Fatalf("%s: answered when %d had passed: %s", text, i, s)
				}
				w.do("calm 1")
			}
			if s := w.fresh(1); s == "" {
				t.Fatalf("%s: not answered with the offset %d", text, offset)
			}
		}
		order := w.Order()
		if last := order[len(order)-1]; last.End.Wall < 70 || last.Conn != 1 {
			t.Errorf("%v", last)
		}
	}
	w := start(t, 2, 6)
	w.do("skew 1 -9", "skew 2 9", "calm 60")
	w.connect(1, 2)
	w.ask(1, "create table t (a int primary key)", "C CREATE TABLE; Z I")
	w.connect(2, 1)
	w.ask(2, "insert into t values (1)", "C INSERT 0 1; Z I")
	order := w.Order()
	if len(order) != 2 || order[1].Conn != 2 || order[0].End.Wall >= order[1].End.Wall {
		t.Errorf("%v", order)
	}
}

// P25.3
func TestOrder(t *testing.T) {
	w := start(t, 1, 0)
	w.connect(3, 1)
	w.ask(3, "create table t (a int primary key)", "C CREATE TABLE; Z I")
	w.ask(3, "selec", "E 42601; Z I")
	w.ask(3, "begin; commit; begin; rollback", "C BEGIN; C COMMIT; C BEGIN; C ROLLBACK; Z I")
	w.ask(3, "begin; select 1", "C BEGIN; T; D 1; C SELECT 1; Z T")
	w.ask(3, "insert into t values (1); insert into t values (2)", "C INSERT 0 1; C INSERT 0 1; Z T")
	w.ask(3, "commit; select 2", "C COMMIT; T; D 2; C SELECT 1; Z I")
	w.ask(3, "begin; insert into t values (3); rollback; select 1 / 0", "C BEGIN; C INSERT 0 1; C ROLLBACK; E 22012; Z I")
	w.ask(3, "", "I; Z I")
	w.ask(3, "update t set a = 5 where a = 9", "C UPDATE 0; Z I")
	var got []string
	for _, o := range w.Order() {
		got = append(got, fmt.Sprint(o.Conn, o.Queries))
	}
	if s := strings.Join(got, " "); s != "3 [0] 3 [3 4] 3 [5] 3 [8]" {
		t.Errorf("Order: %s", s)
	}
	w.Order()[1].Queries[0] = 99
	if w.Order()[1].Queries[0] != 3 {
		t.Error("Order shares memory")
	}
	w.Out(3)[0] = 0
	if w.Out(3)[0] != 'R' {
		t.Error("Out shares memory")
	}
}

// Example 8, and P25.7: a client that violates the protocol; others go on.
func TestViolations(t *testing.T) {
	w := start(t, 3, 0)
	w.connect(1, 1)
	w.connect(2, 1)
	w.do("calm 30")
	w.ask(1, "create table t (a int primary key)", "C CREATE TABLE; Z I")
	w.ask(1, "begin; insert into t values (1)", "C BEGIN; C INSERT 0 1; Z T")
	w.send(1, []byte("Q\x00\x00\x00\x00"))
	if s := w.fresh(1); s != "FATAL 08P01" || w.Open(1) {
		t.Errorf("%s", s)
	}
	w.ask(2, "select * from t", "T; C SELECT 0; Z I")
	w.send(2, []byte("X\x00\x00\x00\x04"))
	if w.Open(2) || w.fresh(2) != "" {
		t.Error("it is open")
	}
	for i, b := range []string{"\x00\x00\x00\x07", "\x00\x00\x00\x08\x00\x02\x00\x00", "\x7f\xff\xff\xff"} {
		w.do(fmt.Sprintf("connect %d 2", 3+i))
		w.send(3+i, []byte(b))
		if s := w.fresh(3 + i); s != "FATAL 08P01" || w.Open(3+i) {
			t.Errorf("%d: %s", i, s)
		}
	}
	w.do("connect 6 3")
	w.send(6, []byte("\x00\x00\x00\x08\x04\xd2\x16\x2f"))
	if s := w.fresh(6); s != "N" {
		t.Errorf("%s", s)
	}
}

// P25.8: others that do not start, and nodes that fail.
func TestIndependence(t *testing.T) {
	w := start(t, 5, 3)
	for i := range 4 {
		w.do(fmt.Sprintf("connect %d %d", 10+i, 1+i))
		w.send(10+i, []byte{0, 0, 0}[:i%4])
	}
	w.connect(1, 1)
	w.ask(1, "create table t (a int primary key)", "C CREATE TABLE; Z I")
	w.ask(1, "insert into t values (1), (2)", "C INSERT 0 2; Z I")
	w.do("crash 1", "crash 3", "connect 2 5", "calm 63")
	w.send(2, startup)
	w.do("calm 63")
	w.fresh(2)
	w.send(2, query("select count(*) from t"))
	w.do("calm 63")
	if s := w.fresh(2); s != "T; D 2; C SELECT 1; Z I" {
		t.Errorf("%s", s)
	}
}

// What a host refuses: rows that are too long, or too many.
func TestHostLimits(t *testing.T) {
	w := start(t, 1, 0)
	w.connect(1, 1)
	long := func(n int) string { return "'" + strings.Repeat("x", n) + "'" }
	w.ask(1, "create table t (a text primary key, b text)", "C CREATE TABLE; Z I")
	w.ask(1, "insert into t values ("+long(90)+", '')", "C INSERT 0 1; Z I")
	w.ask(1, "insert into t values ("+long(91)+", '')", "E 54000; Z I")
	w.ask(1, "insert into t values ('a', "+long(9997)+")", "C INSERT 0 1; Z I")
	w.ask(1, "insert into t values ('b', "+long(9998)+")", "E 54000; Z I")
	w.ask(1, "select count(*) from t where a = "+long(200)+" or b = 'q'", "T; D 0; C SELECT 1; Z I")
	w.ask(1, "select count(*) from t where a > "+long(200), "T; D 0; C SELECT 1; Z I")
	w.ask(1, "select count(*) from t where a < "+long(200), "T; D 2; C SELECT 1; Z I")
	w.ask(1, "create table u (a int primary key)", "C CREATE TABLE; Z I")
	var l []string
	for i := range 1990 {
		l = append(l, fmt.Sprintf("(%d)", i))
	}
	w.ask(1, "insert into u values "+strings.Join(l, ", "), "C INSERT 0 1990; Z I")
	w.ask(1, "select count(*) from u", "T; D 1990; C SELECT 1; Z I")
	w.ask(1, "insert into u values (3000), (3001), (3002), (3003), (3004), (3005), (3006), (3007), (3008), (3009), (3010)", "C INSERT 0 11; Z I")
	w.ask(1, "delete from u", "E 54000; Z I")
	w.ask(1, "delete from u where a < 1000", "C DELETE 1000; Z I")
	w.ask(1, "select count(*), min(a) from u", "T; D 1001,1000; C SELECT 1; Z I")
}

// P25.7: whatever comes, no call panics, and what is sent is a prefix of what a session may send.
func TestAnything(t *testing.T) {
	r := rand.New(rand.NewSource(257))
	words := []string{"time", "skew", "wait", "tick", "deliver", "drop", "double", "connect", "close", "crash", "start", "arm", "split", "change", "compact", "calm", "0", "1", "2", "3", "-1", "7", "0280", "12", "123", "x", ""}
	pieces := [][]byte{startup, query("select 1"), query("create table t (a int primary key)"), query("insert into t values (1)"), query("begin; select * from t; commit"), query("'"), {0}, {'Q', 0, 0}, {0, 0, 0, 9}, {'X', 0, 0, 0, 4}, {200, 1, 2}}
	for range 60 {
		w := start(t, 1+r.Intn(3), r.Intn(4))
		for range 150 {
			if r.Intn(3) == 0 {
				w.Send(r.Intn(18), pieces[min(r.Intn(20), len(pieces)-1)])
				continue
			}
			l := words[r.Intn(16)]
			for range r.Intn(4) {
				l += " " + words[r.Intn(len(words))]
			}
			w.Do(l)
			if r.Intn(4) == 0 {
				w.Do("calm 2")
			}
			if r.Intn(8) == 0 {
				w.Do(fmt.Sprintf("connect %d %d", 1+r.Intn(16), 1+r.Intn(3)))
				w.Do(fmt.Sprintf("start %d", 1+r.Intn(3)))
			}
			w.Open(r.Intn(20))
			w.Leads(r.Intn(5), r.Intn(3))
		}
		for conn := range 17 {
			legal(t, w.Out(conn))
		}
	}
}

// legal checks the order of the messages of a stream, all of which is there.
func legal(t *testing.T, b []byte) {
	t.Helper()
	state := "new"
	next := map[string]map[int]string{
		"new":   {api.BackRefuse: "new", api.BackAuthOk: "start", api.BackError: "over"},
		"start": {api.BackParameter: "start", api.BackKeyData: "start", api.BackReady: "ready"},
		"ready": {api.BackFields: "rows", api.BackComplete: "query", api.BackEmpty: "ended", api.BackError: "ended"},
		"rows":  {api.BackRow: "rows", api.BackComplete: "query"},
		"query": {api.BackFields: "rows", api.BackComplete: "query", api.BackError: "ended", api.BackReady: "ready"},
		"ended": {api.BackReady: "ready", api.BackError: "over"},
	}
	for whole := b; len(b) > 0; {
		m, n, e := pgwire.Take(b)
		if e != api.OK {
			t.Fatalf("Take: %d", e)
		}
		b = b[n:]
		to := next[state][m.Kind]
		if m.Fatal {
			to = "over"
		}
		if to == "" || state == "over" {
			t.Fatalf("%v behind %s: %s", m, state, show(t, whole))
		}
		state = to
	}
}

// The same script has the same outcome.
func TestSameAgain(t *testing.T) {
	var outs [][]byte
	for range 2 {
		w := start(t, 3, 1)
		w.connect(1, 2)
		w.connect(2, 3)
		for i, text := range []string{"create table t (a int primary key, b text unique)", "insert into t values (1, 'x'), (2, 'y'), (3, 'z')", "update t set b = b || 'q'", "select * from t order by a desc"} {
			w.send(1+i%2, query(text))
			w.do("calm 30", "tick 1", "split 1 02800000000000000180")
		}
		w.do("calm 60")
		outs = append(outs, slices.Concat(w.Out(1), w.Out(2), []byte(fmt.Sprint(w.Order(), w.Ranges(1)))))
	}
	if !bytes.Equal(outs[0], outs[1]) || !reflect.DeepEqual(outs[0], outs[1]) {
		t.Error("it is not the same")
	}
}

// P25.6: a statement with as many writes as may be is answered in time.
func TestLargeStatements(t *testing.T) {
	for _, node := range []int{1, 5} {
		w := start(t, 5, 0)
		w.connect(1, node)
		w.ask(1, "create table t (a int primary key, b int unique)", "C CREATE TABLE; Z I")
		var l []string
		for i := range 999 {
			l = append(l, fmt.Sprintf("(%d, %d)", i, i))
		}
		for _, x := range [][2]string{{"insert into t values " + strings.Join(l, ", "), "C INSERT 0 999; Z I"}, {"delete from t where a >= 0", "C DELETE 999; Z I"}, {"select count(*) from t", "T; D 0; C SELECT 1; Z I"}} {
			w.send(1, query(x[0]))
			w.do("calm 60")
			if s := w.fresh(1); s != x[1] {
				t.Errorf("%.20s: %s", x[0], s)
			}
		}
	}
}
