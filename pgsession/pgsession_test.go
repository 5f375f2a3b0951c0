package pgsession_test

import (
	"fmt"
	"math/rand"
	"reflect"
	"strings"
	"testing"

	"cormorant/api"
	"cormorant/pgsession"
	"cormorant/pgwire"
)

func session(t *testing.T) *pgsession.Session {
	t.Helper()
	s, e := pgsession.New(7, 9)
	if e != api.OK {
		t.Fatalf("New: %d", e)
	}
	return s
}

func front(f api.Front) []byte {
	b, _ := pgwire.PutFront(f)
	return b
}

func query(text string) []byte { return front(api.Front{Kind: api.FrontQuery, Text: text}) }

var startup = front(api.Front{Kind: api.FrontStartup, Params: []api.Param{{Name: "user", Value: "x"}}})

// show is messages in short.
func show(t *testing.T, b []byte) string {
	t.Helper()
	var l []string
	for len(b) > 0 {
		m, n, e := pgwire.Take(b)
		if e != api.OK {
			t.Fatalf("Take: %d", e)
		}
		b = b[n:]
		switch m.Kind {
		case api.BackAuthOk:
			l = append(l, "R")
		case api.BackParameter:
			l = append(l, "S "+m.Name+"="+m.Text)
		case api.BackKeyData:
			l = append(l, fmt.Sprint("K ", m.Pid, " ", m.Secret))
		case api.BackReady:
			l = append(l, "Z "+string(m.Status))
		case api.BackFields:
			l = append(l, fmt.Sprint("T ", len(m.Fields)))
		case api.BackRow:
			l = append(l, "D "+m.Cells[0].Text)
		case api.BackComplete:
			l = append(l, "C "+m.Text)
		case api.BackEmpty:
			l = append(l, "I")
		case api.BackError:
			s := "E " + m.State + " " + m.Text
			if m.Fatal {
				s = "FATAL " + m.State
			}
			l = append(l, s)
		case api.BackRefuse:
			l = append(l, "N")
		}
	}
	return strings.Join(l, "; ")
}

func is(t *testing.T, what string, got, want any) {
	t.Helper()
	if !reflect.DeepEqual(got, want) {
		t.Errorf("%s: %v, want %v", what, got, want)
	}
}

func feed(t *testing.T, s *pgsession.Session, b []byte, want string) {
	t.Helper()
	is(t, "Feed", show(t, s.Feed(b)), want)
}

func answer(t *testing.T, s *pgsession.Session, o api.Outcome, e api.Errno, want string) {
	t.Helper()
	is(t, "Answer", show(t, s.Answer(o, e)), want)
}

// asks checks what is asked, the status, and whether the session has ended.
func asks(t *testing.T, s *pgsession.Session, kind int, own bool, status byte, closed bool) {
	t.Helper()
	a := s.Ask()
	is(t, "Ask", []any{a.Kind, a.Own, s.Status(), s.Closed()}, []any{kind, own, status, closed})
	if kind != pgsession.AskRun && !reflect.DeepEqual(a.Stmt, api.Stmt{}) {
		t.Errorf("a statement: %v", a.Stmt)
	}
}

// open is a session with an open transaction.
func open(t *testing.T) *pgsession.Session {
	t.Helper()
	s := session(t)
	s.Feed(startup)
	s.Feed(query("begin"))
	s.Answer(api.Outcome{}, api.OK)
	asks(t, s, pgsession.AskNone, false, 'T', false)
	return s
}

const greeting = "R; S server_version=16.0; S client_encoding=UTF8; S DateStyle=ISO; K 7 9; Z I"

var oneRow = api.Outcome{Fields: []api.Field{{Name: "a", Type: api.TypeInt}}, Rows: [][]api.Value{{{Type: api.TypeInt, Int: 5}}}, Tag: "SELECT 1"}

// P24.1
func TestNew(t *testing.T) {
	for _, c := range [][2]int{{1 << 31, 0}, {-1<<31 - 1, 0}, {0, 1 << 31}, {0, -1<<31 - 1}} {
		if s, e := pgsession.New(c[0], c[1]); s != nil || e != api.ErrArg {
			t.Errorf("New(%v): %d", c, e)
		}
	}
	s, e := pgsession.New(-1<<31, 1<<31-1)
	is(t, "New", e, api.OK)
	asks(t, s, pgsession.AskNone, false, 0, false)
	is(t, "Left", s.Left(), 0)
	feed(t, s, startup[:5], "")
	is(t, "Left", s.Left(), 5)
	is(t, "numbers", []int{pgsession.AskNone, pgsession.AskRun, pgsession.AskBegin, pgsession.AskCommit, pgsession.AskAbort}, []int{0, 1, 2, 3, 4})
}

// The examples.
func TestExamples(t *testing.T) {
	s := session(t)
	feed(t, s, startup, greeting)
	feed(t, s, query("begin; select 1"), "")
	asks(t, s, pgsession.AskBegin, false, 'I', false)
	answer(t, s, api.Outcome{}, api.OK, "C BEGIN")
	asks(t, s, pgsession.AskRun, false, 'T', false)
	is(t, "the statement", s.Ask().Stmt.Kind, api.StmtSelect)
	answer(t, s, oneRow, api.OK, "T 1; D 5; C SELECT 1; Z T")
	feed(t, s, query("selec"), "E 42601 syntax error")
	asks(t, s, pgsession.AskAbort, false, 'E', false)
	answer(t, s, api.Outcome{}, api.OK, "Z E")
	feed(t, s, query("select 1"), "E 25P02 the transaction has failed; Z E")
	feed(t, s, query("rollback"), "C ROLLBACK; Z I")
	feed(t, s, []byte("Q\x00\x00\x00\x00"), "FATAL 08P01")
	asks(t, s, pgsession.AskNone, false, 'I', true)
	is(t, "Left", s.Left(), 0)
	feed(t, s, query("select 1"), "")
	is(t, "Left", s.Left(), 0)
}

// Proceeding: statements in each status.
func TestStatements(t *testing.T) {
	s := session(t)
	feed(t, s, front(api.Front{Kind: api.FrontSecure}), "N")
	feed(t, s, append(front(api.Front{Kind: api.FrontSecure}), startup...), "N; "+greeting)
	feed(t, s, query(""), "I; Z I")
	feed(t, s, query(";; -- x"), "I; Z I")
	feed(t, s, query("commit; rollback"), "C COMMIT; C ROLLBACK; Z I")
	feed(t, s, query("#"), "E 42601 syntax error; Z I")
	feed(t, s, query("select 1; select 2"), "")
	asks(t, s, pgsession.AskRun, true, 'I', false)
	answer(t, s, oneRow, api.OK, "T 1; D 5; C SELECT 1")
	asks(t, s, pgsession.AskRun, true, 'I', false)
	answer(t, s, oneRow, api.ErrNoTable, "E 42P01 no such table; Z I")
	feed(t, s, query("select 1; commit; select 2"), "")
	answer(t, s, api.Outcome{Tag: "INSERT 0 1"}, api.OK, "C INSERT 0 1; C COMMIT")
	answer(t, s, api.Outcome{}, api.ErrTxnAgain, "E 40001 begin the transaction again; Z I")
	feed(t, s, query("begin; begin; commit; begin"), "")
	answer(t, s, api.Outcome{}, api.OK, "C BEGIN; C BEGIN")
	asks(t, s, pgsession.AskCommit, false, 'T', false)
	answer(t, s, api.Outcome{}, api.OK, "C COMMIT")
	asks(t, s, pgsession.AskBegin, false, 'I', false)
	answer(t, s, api.Outcome{}, api.ErrClockEnd, "E 53000 out of timestamps; Z I")
	feed(t, s, query("begin; rollback; select 1"), "")
	answer(t, s, api.Outcome{}, api.OK, "C BEGIN")
	asks(t, s, pgsession.AskAbort, false, 'T', false)
	answer(t, s, api.Outcome{}, api.ErrTxnAgain, "C ROLLBACK")
	asks(t, s, pgsession.AskRun, true, 'I', false)
	answer(t, s, oneRow, api.OK, "T 1; D 5; C SELECT 1; Z I")
	answer(t, s, oneRow, api.OK, "")
	s = open(t)
	feed(t, s, query("commit; select 1"), "")
	answer(t, s, api.Outcome{}, api.ErrTxnAgain, "E 40001 begin the transaction again; Z I")
	asks(t, s, pgsession.AskNone, false, 'I', false)
	s = open(t)
	feed(t, s, query("select 1; select 2"), "")
	answer(t, s, api.Outcome{}, api.ErrDivision, "E 22012 division by zero")
	asks(t, s, pgsession.AskAbort, false, 'E', false)
	answer(t, s, api.Outcome{}, api.OK, "Z E")
	feed(t, s, query("begin"), "E 25P02 the transaction has failed; Z E")
	feed(t, s, query("#"), "E 42601 syntax error; Z E")
	feed(t, s, query("select 1; commit"), "E 25P02 the transaction has failed; Z E")
	feed(t, s, query("commit; select 1"), "C ROLLBACK")
	asks(t, s, pgsession.AskRun, true, 'I', false)
}

// Answers that are no messages.
func TestWrongOutcomes(t *testing.T) {
	s := session(t)
	s.Feed(startup)
	for _, o := range []api.Outcome{{Fields: []api.Field{{Name: "a", Type: 9}}, Tag: "x"}, {Fields: []api.Field{{Name: "\x00", Type: 1}}}, {Tag: "\x00"}, {Fields: make([]api.Field, 1601)}} {
		s.Feed(query("select 1"))
		answer(t, s, o, api.OK, "E 08P01 protocol violation; Z I")
	}
	s.Feed(query("select 1"))
	answer(t, s, api.Outcome{Fields: []api.Field{{Name: "a", Type: api.TypeText}}, Rows: [][]api.Value{{{Type: api.TypeText, Null: true}}, {{Type: api.TypeText, Text: "x\x00"}}}, Tag: "T"}, api.OK, "T 1; D ; D x\x00; C T; Z I")
}

// P24.2
func TestEnds(t *testing.T) {
	for _, b := range [][]byte{front(api.Front{Kind: api.FrontCancel, Pid: 1}), append(startup[:len(startup):len(startup)], front(api.Front{Kind: api.FrontTerminate})...)} {
		s := session(t)
		s.Feed(append(b, query("select 1")...))
		is(t, "Closed", []any{s.Closed(), s.Left(), s.Ask().Kind}, []any{true, 0, pgsession.AskNone})
	}
	s := session(t)
	feed(t, s, []byte("\x00\x00\x00\x08\x00\x02\x00\x00"), "FATAL 08P01")
	asks(t, s, pgsession.AskNone, false, 0, true)
	s = open(t)
	feed(t, s, []byte("P\x00\x00\x00\x04"), "FATAL 08P01")
	asks(t, s, pgsession.AskAbort, false, 'T', true)
	answer(t, s, api.Outcome{}, api.OK, "")
	asks(t, s, pgsession.AskNone, false, 'T', true)
	s = session(t)
	s.Feed(startup)
	s.Feed(query("select 1"))
	feed(t, s, make([]byte, 2097152), "")
	is(t, "Left", s.Left(), 2097152)
	feed(t, s, make([]byte, 1), "FATAL 08P01")
	asks(t, s, pgsession.AskNone, false, 'I', true)
	answer(t, s, oneRow, api.OK, "")
	s = session(t)
	feed(t, s, append(startup[:len(startup):len(startup)], make([]byte, 2097152)...), "FATAL 08P01")
}

// P24.4
func TestClose(t *testing.T) {
	s := session(t)
	s.Close()
	asks(t, s, pgsession.AskNone, false, 0, true)
	s = open(t)
	s.Feed(query("commit"))
	asks(t, s, pgsession.AskCommit, false, 'T', false)
	s.Close()
	asks(t, s, pgsession.AskAbort, false, 'T', true)
	s.Close()
	asks(t, s, pgsession.AskAbort, false, 'T', true)
	answer(t, s, api.Outcome{}, api.OK, "")
	s = open(t)
	s.Feed(query("select 1"))
	s.Close()
	asks(t, s, pgsession.AskAbort, false, 'T', true)
	s = open(t)
	s.Feed(query("#"))
	asks(t, s, pgsession.AskAbort, false, 'E', false)
	s.Close()
	asks(t, s, pgsession.AskAbort, false, 'E', true)
	s = session(t)
	s.Feed(startup)
	s.Feed(query("select 1"))
	s.Close()
	asks(t, s, pgsession.AskNone, false, 'I', true)
	s = session(t)
	s.Feed(startup)
	s.Feed(query("begin"))
	s.Close()
	asks(t, s, pgsession.AskNone, false, 'I', true)
}

// P24.1: the statement that is asked for is new memory.
func TestAskShares(t *testing.T) {
	s := session(t)
	s.Feed(startup)
	s.Feed(query("select a + 1, b from t as x join u on 1 where 2 group by 3 having 4 order by 5"))
	before := fmt.Sprint(s.Ask())
	a := s.Ask().Stmt.Select
	a.Items[0].Expr.Args[0].Name, a.From[0].Table, a.From[1].On.Value.Int, a.Group[0].Value.Int, a.Order[0].Expr.Value.Int = "q", "q", 9, 9, 9
	is(t, "Ask", fmt.Sprint(s.Ask()), before)
	for _, text := range []string{"insert into t (a) values (1)", "update t set a = 1", "create table t (a int default 1, primary key (a))", "create index i on t (a)"} {
		s := session(t)
		s.Feed(startup)
		s.Feed(query(text))
		before := fmt.Sprint(s.Ask())
		a := s.Ask().Stmt
		for i := range a.Columns {
			a.Columns[i] = "q"
		}
		for i := range a.Rows {
			a.Rows[i][0].Value.Int = 9
		}
		for i := range a.Sets {
			a.Sets[i].Column = "q"
		}
		for i := range a.Cols {
			a.Cols[i].Name = "q"
		}
		for i := range a.Key {
			a.Key[i] = "q"
		}
		for i := range a.Index.Columns {
			a.Index.Columns[i] = "q"
		}
		is(t, text, fmt.Sprint(s.Ask()), before)
	}
}

// P24.5: what is sent does not hang on how the bytes are divided, and is a prefix of what may be sent.
func TestTheorem(t *testing.T) {
	r := rand.New(rand.NewSource(245))
	pieces := [][]byte{query("select 1"), query("begin"), query("commit"), query("rollback"), query("begin; select 1; select 2; commit"), query("#"), query(""), query("select 1; begin; select 2"), query("insert into t values (1); rollback; select 1")}
	rare := [][]byte{front(api.Front{Kind: api.FrontTerminate}), []byte("P\x00\x00\x00\x04"), []byte("Q\x00\x00\x00\x05x"), {0}, {200}}
	for range 400 {
		var whole []byte
		if r.Intn(9) > 0 {
			whole = append(whole, startup...)
		}
		for range r.Intn(9) {
			if r.Intn(20) == 0 {
				whole = append(whole, rare[r.Intn(len(rare))]...)
			} else {
				whole = append(whole, pieces[r.Intn(len(pieces))]...)
			}
		}
		one := session(t)
		a := one.Feed(whole)
		two := session(t)
		var b []byte
		n := 0
		for one.Ask().Kind != pgsession.AskNone {
			a = append(a, turn(one, n)...)
			n++
		}
		n = 0
		for rest := whole; len(rest) > 0; {
			k := 1 + r.Intn(min(len(rest), 9))
			b = append(b, two.Feed(rest[:k])...)
			rest = rest[k:]
			for two.Ask().Kind != pgsession.AskNone && (r.Intn(3) > 0 || len(rest) == 0) {
				b = append(b, turn(two, n)...)
				n++
			}
		}
		if string(a) != string(b) {
			t.Fatalf("%s\n%s", show(t, a), show(t, b))
		}
		legal(t, show(t, a))
	}
}

// turn answers the n-th question.
func turn(s *pgsession.Session, n int) []byte {
	e := api.OK
	if n%5 == 4 {
		e = api.ErrTxnAgain
	}
	o := api.Outcome{Tag: "INSERT 0 1"}
	if n%2 == 0 {
		o = oneRow
	}
	return s.Answer(o, e)
}

// legal checks the order of messages.
func legal(t *testing.T, s string) {
	t.Helper()
	s = strings.ReplaceAll(s, greeting, "start")
	state := "new"
	for _, m := range strings.Split(s, "; ") {
		if s == "" {
			return
		}
		kind := strings.Fields(m)[0]
		next := ""
		switch kind {
		case "start":
			next = map[string]string{"new": "ready"}[state]
		case "T":
			next = map[string]string{"ready": "rows", "query": "rows"}[state]
		case "D":
			next = map[string]string{"rows": "rows"}[state]
		case "C":
			next = map[string]string{"ready": "query", "query": "query", "rows": "query"}[state]
		case "I", "E":
			next = map[string]string{"ready": "ended", "query": "ended"}[state]
		case "Z":
			next = map[string]string{"query": "ready", "ended": "ready"}[state]
		case "FATAL":
			next = map[string]string{"new": "over", "ready": "over", "query": "over", "ended": "over"}[state]
		}
		if next == "" {
			t.Fatalf("%s behind %s: %s", m, state, s)
		}
		state = next
	}
}
