package mvcc_test

import (
	"bytes"
	"fmt"
	"maps"
	"math/rand"
	"reflect"
	"slices"
	"strings"
	"testing"

	"cormorant/api"
	"cormorant/mvcc"
)

func at(wall, logic int) api.Stamp { return api.Stamp{Wall: wall, Logic: logic} }

var (
	end   = at(api.MaxWall, api.MaxLogic)
	wrong = at(0, api.MaxLogic+1)
)

func is(t *testing.T, what string, got, want any) {
	t.Helper()
	if !reflect.DeepEqual(got, want) {
		t.Errorf("%s: %v, want %v", what, got, want)
	}
}

func put(t *testing.T, s *mvcc.Space, key string, txn int, m api.Stamp, value string, want api.Stamp) {
	t.Helper()
	got, by, e := s.Put(api.Intent{Key: []byte(key), Txn: txn, At: m, Value: []byte(value)})
	is(t, "Put of "+key, []any{got, by, e}, []any{want, 0, api.OK})
}

func del(t *testing.T, s *mvcc.Space, key string, txn int, m, want api.Stamp) {
	t.Helper()
	got, by, e := s.Put(api.Intent{Key: []byte(key), Txn: txn, At: m, Del: true})
	is(t, "Put of "+key, []any{got, by, e}, []any{want, 0, api.OK})
}

func resolve(t *testing.T, s *mvcc.Space, key string, txn int, commit bool, m api.Stamp, want bool) {
	t.Helper()
	got, e := s.Resolve([]byte(key), txn, commit, m)
	is(t, "Resolve of "+key, []any{got, e}, []any{want, api.OK})
}

// get tells what is read: the value and its moment, "-" for nothing, or who blocks.
func get(s *mvcc.Space, key string, m api.Stamp, txn int) string {
	g, e := s.Get([]byte(key), m, txn)
	switch {
	case e == api.ErrMvccIntent:
		return fmt.Sprint("by ", g.By)
	case e != api.OK:
		return fmt.Sprint("error ", e)
	case !g.Found && (g.Value != nil || g.At != at(0, 0) || g.By != 0):
		return "not zero"
	case !g.Found:
		return "-"
	}
	return fmt.Sprintf("%s %d.%d", g.Value, g.At.Wall, g.At.Logic)
}

// The examples.
func TestExamples(t *testing.T) {
	s := mvcc.New()
	put(t, s, "a", 1, at(5, 0), "x", at(5, 0))
	is(t, "Get", get(s, "a", at(4, 0), 2), "-")
	is(t, "Get", get(s, "a", at(5, 0), 2), "by 1")
	is(t, "Get", get(s, "a", at(1, 0), 1), "x 5.0")
	resolve(t, s, "a", 1, true, at(6, 0), true)
	is(t, "Get", get(s, "a", at(5, 9), 2), "-")
	is(t, "Get", get(s, "a", at(6, 0), 2), "x 6.0")
	put(t, s, "a", 2, at(3, 0), "y", at(6, 1))
	changed := func(from, to api.Stamp, txn int, want bool) {
		t.Helper()
		got, e := s.Changed(api.Span{From: []byte("a"), To: []byte("b")}, from, to, txn)
		is(t, "Changed", []any{got, e}, []any{want, api.OK})
	}
	changed(at(5, 0), at(6, 0), 2, true)
	changed(at(6, 0), at(6, 1), 2, false)
	changed(at(6, 0), at(6, 1), 3, true)
	changed(at(6, 0), at(6, 0), 3, false)
	changed(at(5, 0), at(5, 65535), 0, false)
	changed(at(7, 0), at(5, 0), 2, false)
}

// P13.2
func TestGetErrors(t *testing.T) {
	s := mvcc.New()
	put(t, s, "a", 1, at(5, 0), "x", at(5, 0))
	s.Collect(at(3, 0))
	long := strings.Repeat("k", 111)
	for i, c := range []struct {
		key  string
		at   api.Stamp
		txn  int
		want api.Errno
	}{{"", at(5, 0), 1, api.ErrArg}, {long, at(5, 0), 1, api.ErrArg}, {"a", wrong, 1, api.ErrArg}, {"a", at(5, 0), -1, api.ErrArg}, {"a", at(5, 0), api.MaxWall + 1, api.ErrArg}, {"a", at(2, 9), 1, api.ErrMvccOld}, {long[1:], at(3, 0), 0, api.OK}, {"a", at(3, 0), api.MaxWall, api.OK}} {
		g, e := s.Get([]byte(c.key), c.at, c.txn)
		if e != c.want || !reflect.DeepEqual(g, api.Got{}) {
			t.Errorf("%d: %v %d", i, g, e)
		}
	}
	g, e := s.Get([]byte("a"), at(9, 0), 0)
	is(t, "Get", []any{g, e}, []any{api.Got{By: 1}, api.ErrMvccIntent})
	del(t, s, "a", 1, at(5, 0), at(5, 0))
	is(t, "an own deletion", get(s, "a", at(9, 0), 1), "-")
	g, _ = s.Get([]byte("a"), at(4, 0), 7)
	is(t, "Get", g, api.Got{})
}

// P13.3
func TestScan(t *testing.T) {
	s := mvcc.New()
	for _, k := range []string{"d", "a", "c", "b", "e"} {
		put(t, s, k, 1, at(5, 0), strings.ToUpper(k), at(5, 0))
		resolve(t, s, k, 1, true, at(5, 0), true)
	}
	del(t, s, "b", 2, at(6, 0), at(6, 0))
	resolve(t, s, "b", 2, true, at(6, 0), true)
	put(t, s, "d", 3, at(7, 0), "mine", at(7, 0))
	scan := func(from, to string, m api.Stamp, txn, most int, want string, by int, code api.Errno) {
		t.Helper()
		l, who, e := s.Scan(api.Span{From: []byte(from), To: []byte(to)}, m, txn, most)
		var got []string
		for _, kv := range l {
			got = append(got, string(kv.Key)+"="+string(kv.Value))
		}
		is(t, "Scan", []any{strings.Join(got, " "), who, e}, []any{want, by, code})
	}
	scan("", "", at(5, 0), 0, 9, "a=A b=B c=C d=D e=E", 0, api.OK)
	scan("", "", at(6, 0), 0, 9, "a=A c=C d=D e=E", 0, api.OK)
	scan("", "", at(4, 0), 0, 9, "", 0, api.OK)
	scan("b", "d", at(5, 0), 0, 9, "b=B c=C", 0, api.OK)
	scan("bb", "", at(5, 0), 0, 2, "c=C d=D", 0, api.OK)
	scan("d", "c", at(5, 0), 0, 2, "", 0, api.OK)
	scan("", "", at(7, 0), 0, 9, "", 3, api.ErrMvccIntent)
	scan("", "", at(7, 0), 3, 9, "a=A c=C d=mine e=E", 0, api.OK)
	scan("", "", at(7, 0), 0, 2, "a=A c=C", 0, api.OK)
	scan("", "", at(7, 0), 0, 3, "", 3, api.ErrMvccIntent)
	scan("e", "", at(7, 0), 0, 3, "e=E", 0, api.OK)
	scan("", "", wrong, 0, 3, "", 0, api.ErrArg)
	scan("", "", at(7, 0), -1, 3, "", 0, api.ErrArg)
	scan("", "", at(7, 0), 0, 0, "", 0, api.ErrArg)
	s.Collect(at(6, 0))
	scan("", "", at(5, 0), 0, 3, "", 0, api.ErrMvccOld)
	scan("", "", at(5, 0), 0, -1, "", 0, api.ErrArg)
}

// P13.4
func TestPut(t *testing.T) {
	s := mvcc.New()
	key := []byte("a")
	for i, x := range []api.Intent{{Txn: 1}, {Key: bytes.Repeat(key, 111), Txn: 1}, {Key: key}, {Key: key, Txn: api.MaxWall + 1}, {Key: key, Txn: 1, At: wrong}, {Key: key, Txn: 1, Value: make([]byte, 10001)}, {Key: key, Txn: 1, Del: true, Value: key}} {
		m, by, e := s.Put(x)
		is(t, fmt.Sprint(i), []any{m, by, e}, []any{at(0, 0), 0, api.ErrArg})
	}
	put(t, s, "a", 1, at(0, 0), string(make([]byte, 10000)), at(0, 0))
	m, by, e := s.Put(api.Intent{Key: key, Txn: 2, At: at(9, 0)})
	is(t, "another one's", []any{m, by, e}, []any{at(0, 0), 1, api.ErrMvccIntent})
	put(t, s, "a", 1, at(4, 0), "x", at(4, 0))
	put(t, s, "a", 1, at(3, 0), "y", at(4, 0))
	s.Collect(at(6, 0))
	put(t, s, "a", 1, at(3, 0), "z", at(6, 0))
	resolve(t, s, "a", 1, true, at(8, 65535), true)
	put(t, s, "a", 2, at(8, 65535), "u", at(9, 0))
	put(t, s, "a", 2, at(9, 1), "u", at(9, 1))
	resolve(t, s, "a", 2, true, end, true)
	m, by, e = s.Put(api.Intent{Key: key, Txn: 2, At: end})
	is(t, "at the end", []any{m, by, e}, []any{at(0, 0), 0, api.ErrClockEnd})
	in := []byte("v")
	s.Put(api.Intent{Key: []byte("q"), Txn: 5, Value: in})
	in[0] = 'w'
	is(t, "Intents", s.Intents(), []api.Intent{{Key: []byte("q"), Txn: 5, At: at(6, 0), Value: []byte("v")}})
}

// P13.5
func TestResolve(t *testing.T) {
	s := mvcc.New()
	put(t, s, "a", 1, at(5, 0), "x", at(5, 0))
	for i, c := range []struct {
		key    string
		txn    int
		commit bool
		at     api.Stamp
		want   bool
		e      api.Errno
	}{{"", 1, false, at(0, 0), false, api.ErrArg}, {strings.Repeat("k", 111), 1, false, at(0, 0), false, api.ErrArg}, {"a", 0, false, at(0, 0), false, api.ErrArg}, {"a", api.MaxWall + 1, false, at(0, 0), false, api.ErrArg}, {"a", 1, true, wrong, false, api.ErrArg}, {"b", 1, true, at(9, 0), false, api.OK}, {"a", 2, true, at(1, 0), false, api.OK}, {"a", 1, true, at(4, 9), false, api.ErrArg}, {"a", 1, true, at(5, 0), true, api.OK}, {"a", 1, true, at(5, 0), false, api.OK}} {
		ok, e := s.Resolve([]byte(c.key), c.txn, c.commit, c.at)
		is(t, fmt.Sprint(i), []any{ok, e}, []any{c.want, c.e})
	}
	put(t, s, "a", 2, at(1, 0), "y", at(5, 1))
	resolve(t, s, "a", 2, false, wrong, true)
	is(t, "Get", get(s, "a", at(9, 0), 0), "x 5.0")
	is(t, "Versions", []int{s.Versions(), len(s.Intents())}, []int{1, 0})
	put(t, s, "b", 2, at(1, 0), "y", at(1, 0))
	resolve(t, s, "b", 2, false, at(0, 0), true)
	is(t, "All", len(s.All()), 1)
}

// P13.6
func TestChanged(t *testing.T) {
	s := mvcc.New()
	all := api.Span{}
	for _, c := range []struct {
		from, to api.Stamp
		txn      int
	}{{wrong, at(1, 0), 1}, {at(1, 0), wrong, 1}, {at(1, 0), at(2, 0), -1}, {at(1, 0), at(2, 0), api.MaxWall + 1}} {
		ok, e := s.Changed(all, c.from, c.to, c.txn)
		is(t, "Changed", []any{ok, e}, []any{false, api.ErrArg})
	}
	for i := range 4 {
		put(t, s, "k", 1, at(2*i+1, 0), "x", at(2*i+1, 0))
		resolve(t, s, "k", 1, true, at(2*i+1, 0), true)
	}
	del(t, s, "m", 4, at(9, 0), at(9, 0))
	for _, c := range []struct {
		from, to, txn int
		span          api.Span
		want          bool
	}{{1, 2, 0, all, false}, {0, 1, 0, all, true}, {2, 3, 0, all, true}, {2, 9, 4, all, true}, {7, 8, 0, all, false}, {7, 9, 0, all, true}, {7, 9, 4, all, false}, {0, 9, 0, api.Span{From: []byte("l"), To: []byte("m")}, false}, {0, 9, 0, api.Span{To: []byte("k")}, false}, {0, 9, 4, api.Span{From: []byte("m")}, false}} {
		ok, e := s.Changed(c.span, at(c.from, 0), at(c.to, 0), c.txn)
		is(t, fmt.Sprint(c), []any{ok, e}, []any{c.want, api.OK})
	}
	s.Collect(at(5, 0))
	_, e := s.Changed(all, at(4, 0), at(9, 0), 0)
	is(t, "Changed", e, api.ErrMvccOld)
}

// P13.7
func TestCollect(t *testing.T) {
	s := mvcc.New()
	n, e := s.Collect(wrong)
	is(t, "Collect", []any{n, e}, []any{0, api.ErrArg})
	for i := 1; i < 5; i++ {
		if i == 3 {
			del(t, s, "a", 1, at(i, 0), at(i, 0))
		} else {
			put(t, s, "a", 1, at(i, 0), fmt.Sprint(i), at(i, 0))
		}
		resolve(t, s, "a", 1, true, at(i, 0), true)
	}
	put(t, s, "b", 1, at(1, 0), "x", at(1, 0))
	collect := func(m api.Stamp, want, left int, floor api.Stamp) {
		t.Helper()
		n, e := s.Collect(m)
		is(t, "Collect", []any{n, e, s.Versions(), s.Floor(), len(s.Intents())}, []any{want, api.OK, left, floor, 1})
	}
	collect(at(0, 5), 0, 4, at(0, 5))
	collect(at(2, 0), 1, 3, at(2, 0))
	collect(at(1, 0), 0, 3, at(2, 0))
	is(t, "Get", get(s, "a", at(2, 0), 0), "2 2.0")
	collect(at(3, 9), 2, 1, at(3, 9))
	is(t, "Get", get(s, "a", at(3, 9), 0), "-")
	is(t, "Get", get(s, "a", at(4, 0), 0), "4 4.0")
	collect(at(9, 0), 0, 1, at(9, 0))
	is(t, "Get", get(s, "a", at(9, 0), 0), "4 4.0")
}

func random(r *rand.Rand, s *mvcc.Space) {
	key := []byte(fmt.Sprintf("k%d\x00", r.Intn(6)))
	txn := 1 + r.Intn(3)
	m := at(r.Intn(20), r.Intn(2))
	switch r.Intn(8) {
	case 0, 1, 2:
		s.Put(api.Intent{Key: key, Txn: txn, At: m, Value: []byte(fmt.Sprint(r.Intn(99)))})
	case 3:
		s.Put(api.Intent{Key: key, Txn: txn, At: m, Del: true})
	case 4, 5:
		s.Resolve(key, txn, true, m)
	case 6:
		s.Resolve(key, txn, false, m)
	case 7:
		if r.Intn(3) == 0 {
			s.Collect(at(r.Intn(8), 0))
		}
	}
}

func apply(t *testing.T, m map[string]string, ops []api.Op) {
	t.Helper()
	for i, op := range ops {
		if len(op.Key) > 250 || op.Del && len(op.Value) > 0 || i > 0 && bytes.Compare(ops[i-1].Key, op.Key) >= 0 {
			t.Fatalf("Take: %v", op)
		}
		if op.Del {
			if _, ok := m[string(op.Key)]; !ok {
				t.Fatal("it deletes what is not there")
			}
			delete(m, string(op.Key))
		} else {
			m[string(op.Key)] = string(op.Value)
		}
	}
}

func list(m map[string]string) []api.KV {
	var l []api.KV
	for _, k := range slices.Sorted(maps.Keys(m)) {
		l = append(l, api.KV{Key: []byte(k), Value: []byte(m[k])})
	}
	return l
}

func same(t *testing.T, a, b *mvcc.Space) {
	t.Helper()
	if a.Floor() != b.Floor() || a.Versions() != b.Versions() || !reflect.DeepEqual(fmt.Sprint(a.Intents()), fmt.Sprint(b.Intents())) || !reflect.DeepEqual(fmt.Sprint(a.All()), fmt.Sprint(b.All())) {
		t.Fatalf("%v, %v", a.All(), b.All())
	}
	for k := range 6 {
		for w := range 22 {
			key := fmt.Sprintf("k%d\x00", k)
			if x, y := get(a, key, at(w, 0), 1), get(b, key, at(w, 0), 1); x != y {
				t.Fatalf("%q at %d: %s, %s", key, w, x, y)
			}
		}
	}
}

// P13.1, P13.8, P13.9
func TestTakeLoadSplit(t *testing.T) {
	r := rand.New(rand.NewSource(13))
	for range 100 {
		s := mvcc.New()
		m := map[string]string{}
		is(t, "Take", len(s.Take()), 0)
		for range 60 {
			random(r, s)
			if r.Intn(4) == 0 {
				apply(t, m, s.Take())
				is(t, "Take again", len(s.Take()), 0)
				again, e := mvcc.Load(list(m))
				if e != api.OK {
					t.Fatalf("Load: %d", e)
				}
				same(t, s, again)
				is(t, "Take of a loaded one", len(again.Take()), 0)
				if r.Intn(2) == 0 {
					s = again
				}
			}
			if r.Intn(8) == 0 {
				again, e := mvcc.Load(s.All())
				if e != api.OK || len(again.Take()) != 0 {
					t.Fatalf("Load of All: %d", e)
				}
				same(t, s, again)
			}
		}
		key := fmt.Sprintf("k%d", r.Intn(7))
		before, _ := mvcc.Load(s.All())
		other, e := s.Split([]byte(key))
		if e != api.OK || other.Floor() != s.Floor() {
			t.Fatalf("Split: %d", e)
		}
		is(t, "Versions", s.Versions()+other.Versions(), before.Versions())
		for _, i := range s.Intents() {
			if string(i.Key) >= key {
				t.Fatal("a key is on the left")
			}
		}
		for _, i := range other.Intents() {
			if string(i.Key) < key {
				t.Fatal("a key is on the right")
			}
		}
		for k := range 6 {
			for w := range 22 {
				name := fmt.Sprintf("k%d\x00", k)
				half := s
				if name >= key {
					half = other
				}
				if x, y := get(half, name, at(w, 0), 1), get(before, name, at(w, 0), 1); x != y {
					t.Fatalf("%q at %d: %s, %s", name, w, x, y)
				}
			}
		}
		apply(t, m, s.Take())
		again, _ := mvcc.Load(list(m))
		same(t, s, again)
		n := map[string]string{}
		apply(t, n, other.Take())
		again, e = mvcc.Load(list(n))
		if e != api.OK {
			t.Fatalf("Load: %d", e)
		}
		same(t, other, again)
	}
	s := mvcc.New()
	put(t, s, "a", 1, at(5, 0), strings.Repeat("v", 10000), at(5, 0))
	is(t, "Take", len(s.Take()), 1)
	resolve(t, s, "a", 1, false, at(0, 0), true)
	put(t, s, "a", 1, at(5, 0), strings.Repeat("v", 10000), at(5, 0))
	is(t, "nothing has changed", len(s.Take()), 0)
	resolve(t, s, "a", 1, true, at(5, 0), true)
	is(t, "Take", len(s.Take()), 2)
	put(t, s, "b", 1, at(6, 0), "x", at(6, 0))
	resolve(t, s, "b", 1, false, at(0, 0), true)
	is(t, "what came and went", len(s.Take()), 0)
	if again, e := mvcc.Load(s.All()); e != api.OK || get(again, "a", at(5, 0), 0) != get(s, "a", at(5, 0), 0) {
		t.Errorf("Load: %d", e)
	}
	s = mvcc.New()
	for _, k := range []string{"", strings.Repeat("k", 111)} {
		if x, e := s.Split([]byte(k)); x != nil || e != api.ErrArg {
			t.Errorf("Split: %d", e)
		}
	}
	put(t, s, strings.Repeat("\x00", 110), 1, at(1, 1), "x", at(1, 1))
	resolve(t, s, strings.Repeat("\x00", 110), 1, true, at(1, 1), true)
	apply(t, map[string]string{}, s.Take())
}

// P13.1: what is no space ends all the same.
func TestLoadOther(t *testing.T) {
	r := rand.New(rand.NewSource(131))
	s := mvcc.New()
	for range 60 {
		random(r, s)
	}
	for range 3000 {
		l := s.All()
		i := r.Intn(len(l))
		switch b := &l[i].Key; r.Intn(4) {
		case 0:
			(*b)[r.Intn(len(*b))] ^= byte(1 + r.Intn(255))
		case 1:
			l[i].Key = (*b)[:r.Intn(len(*b))]
		case 2:
			l[i].Value = l[i].Value[:r.Intn(len(l[i].Value)+1)]
		case 3:
			l[i].Value = append(l[i].Value, byte(r.Intn(256)))
		}
		x, e := mvcc.Load(l)
		if (x == nil) != (e == api.ErrMvccForm) {
			t.Fatalf("Load: %d", e)
		}
		if x != nil {
			x.Get([]byte("k1\x00"), at(9, 0), 1)
			x.Collect(at(9, 0))
		}
	}
	if _, e := mvcc.Load([]api.KV{{}}); e != api.ErrMvccForm {
		t.Errorf("Load: %d", e)
	}
}

// P13.10: what is read does not change behind a read, if what is resolved lies after it.
func TestTheorem(t *testing.T) {
	r := rand.New(rand.NewSource(1310))
	for range 60 {
		s := mvcc.New()
		for range 30 {
			random(r, s)
		}
		m := at(12, 1)
		before := map[string]string{}
		for k := range 6 {
			key := fmt.Sprintf("k%d\x00", k)
			before[key] = get(s, key, m, 0)
		}
		for range 40 {
			key := []byte(fmt.Sprintf("k%d\x00", r.Intn(6)))
			switch r.Intn(3) {
			case 0:
				got, _, e := s.Put(api.Intent{Key: key, Txn: 1 + r.Intn(3), At: at(r.Intn(30), 0), Value: []byte("new")})
				if g, ge := s.Get(key, end, 77); ge == api.OK && e == api.OK && bytes.Compare([]byte{byte(g.At.Wall)}, []byte{byte(got.Wall)}) > 0 {
					t.Fatal("Put is not after all versions")
				}
			case 1:
				s.Resolve(key, 1+r.Intn(3), r.Intn(2) == 0, at(13+r.Intn(20), 0))
			case 2:
				s.Collect(at(r.Intn(13), 0))
			}
		}
		for key, x := range before {
			if now := get(s, key, m, 0); now != x && !strings.HasPrefix(now, "by") && !strings.HasPrefix(x, "by") {
				t.Fatalf("%q: %s, then %s", key, x, now)
			}
		}
	}
}
