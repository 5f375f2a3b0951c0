package memtable_test

import (
	"bytes"
	"fmt"
	"math/rand"
	"slices"
	"strings"
	"testing"

	"cormorant/api"
	"cormorant/memtable"
)

func put(key string, seq uint64, value string) api.Entry {
	return api.Entry{Key: []byte(key), Seq: seq, Value: []byte(value)}
}

func same(a, b api.Entry) bool {
	return bytes.Equal(a.Key, b.Key) && a.Seq == b.Seq && a.Del == b.Del && bytes.Equal(a.Value, b.Value)
}

func names(l []api.Entry) string {
	var s []string
	for _, e := range l {
		s = append(s, fmt.Sprintf("%s%d", e.Key, e.Seq))
	}
	return strings.Join(s, " ")
}

func fill(t *testing.T, heights []int, l ...api.Entry) *memtable.Table {
	t.Helper()
	x := memtable.New(heights)
	for _, e := range l {
		if c := x.Put(e); c != api.OK {
			t.Fatalf("Put of %v: %d", e, c)
		}
	}
	return x
}

// P5.1
func TestNew(t *testing.T) {
	heights := []int{2, 1}
	x := memtable.New(heights)
	if x.Len() != 0 || x.Bytes() != 0 || len(x.Level(0)) != 0 || x.Steps([]byte("a"), 1) != 0 || len(slices.Collect(x.Scan(nil))) != 0 {
		t.Error("it has entries")
	}
	heights[0] = 1
	x.Put(put("a", 1, ""))
	if names(x.Level(1)) != "a1" {
		t.Error("it keeps the heights that were handed in")
	}
}

// P5.2
func TestPut(t *testing.T) {
	x := fill(t, nil, put("b", 5, "v"))
	for i, e := range []api.Entry{put("", 1, ""), put(strings.Repeat("k", 257), 1, ""), put("b", 0, ""), put("b", api.MaxSeq+1, ""), put("b", 1, strings.Repeat("v", api.MaxValue+1)), {Key: []byte("b"), Seq: 5, Del: true, Value: []byte("x")}} {
		if c := x.Put(e); c != api.ErrMemEntry {
			t.Errorf("%d: %d", i, c)
		}
	}
	if c := x.Put(put("b", 5, "w")); c != api.ErrMemTwice {
		t.Errorf("twice: %d", c)
	}
	if c := x.Put(api.Entry{Key: []byte("b"), Seq: 5, Del: true}); c != api.ErrMemTwice {
		t.Errorf("twice: %d", c)
	}
	if x.Len() != 1 || x.Bytes() != 18 {
		t.Errorf("%d %d", x.Len(), x.Bytes())
	}
	for _, e := range []api.Entry{put(strings.Repeat("k", 256), api.MaxSeq, strings.Repeat("v", api.MaxValue)), {Key: []byte("b"), Seq: 1, Del: true}} {
		if c := x.Put(e); c != api.OK {
			t.Errorf("Put: %d", c)
		}
	}
	e := put("q", 1, "v")
	x.Put(e)
	e.Key[0], e.Value[0] = 'z', 'z'
	got, ok := x.Get([]byte("q"), 1)
	if !ok || string(got.Value) != "v" {
		t.Error("it keeps what was handed in")
	}
	got.Value[0] = 'y'
	if got, _ = x.Get([]byte("q"), 1); string(got.Value) != "v" {
		t.Error("an answer shares memory")
	}
}

// P5.3, P5.5: the example.
func TestExample(t *testing.T) {
	x := fill(t, []int{1, 3}, put("b", 1, ""), put("a", 2, ""), put("b", 5, ""))
	if s := names(slices.Collect(x.Scan(nil))); s != "a2 b5 b1" {
		t.Error(s)
	}
	for i, want := range map[int]string{0: "a2 b5 b1", 1: "a2", 2: "a2", 3: "", -1: "", 11: "", 12: "", 1 << 40: ""} {
		if s := names(x.Level(i)); s != want {
			t.Errorf("Level(%d): %s", i, s)
		}
	}
	for _, c := range []struct {
		key   string
		seq   uint64
		steps int
	}{{"b", 1, 3}, {"a", 2, 3}, {"b", 9, 2}, {"c", 1, 3}, {"a", 1, 2}, {"", 1, 3}} {
		if n := x.Steps([]byte(c.key), c.seq); n != c.steps {
			t.Errorf("Steps(%s, %d): %d", c.key, c.seq, n)
		}
	}
	for _, c := range []struct {
		key  string
		seq  uint64
		want uint64
	}{{"b", 4, 1}, {"b", 9, 5}, {"b", 5, 5}, {"b", 0, 0}, {"c", 9, 0}, {"aa", 9, 0}, {"", 9, 0}} {
		e, ok := x.Get([]byte(c.key), c.seq)
		if e.Seq != c.want || ok != (c.want > 0) || !ok && !same(e, api.Entry{}) {
			t.Errorf("Get(%s, %d): %v", c.key, c.seq, e)
		}
	}
	if c := x.Put(put("b", 5, "")); c != api.ErrMemTwice {
		t.Errorf("twice: %d", c)
	}
	if s := names(slices.Collect(x.Scan([]byte("aa")))); s != "b5 b1" {
		t.Error(s)
	}
}

// P5.3: what is put meanwhile.
func TestScanMeanwhile(t *testing.T) {
	x := fill(t, []int{1, 2, 3}, put("b", 5, ""), put("d", 1, ""))
	var got []api.Entry
	scan := x.Scan([]byte("b"))
	x.Put(put("b", 7, ""))
	for e := range scan {
		if len(got) == 0 {
			x.Put(put("a", 1, ""))
			x.Put(put("b", 9, ""))
			x.Put(put("b", 6, ""))
		}
		if string(e.Key) == "d" && e.Seq == 1 {
			x.Put(put("e", 1, ""))
		}
		got = append(got, e)
	}
	if s := names(got); s != "b7 b6 b5 d1 e1" {
		t.Error(s)
	}
	n := 0
	for range x.Scan(nil) {
		if n++; n == 2 {
			break
		}
	}
}

// P5.1: heights are kept between 1 and 12, and go round.
func TestHeights(t *testing.T) {
	x := fill(t, []int{0, 99, -5}, put("a", 1, ""), put("b", 1, ""), put("c", 1, ""), put("d", 1, ""), put("e", 1, ""))
	x.Put(put("a", 1, ""))
	x.Put(put("", 1, ""))
	x.Put(put("f", 1, ""))
	for i, want := range map[int]string{0: "a1 b1 c1 d1 e1 f1", 1: "b1 e1", 11: "b1 e1"} {
		if s := names(x.Level(i)); s != want {
			t.Errorf("Level(%d): %s", i, s)
		}
	}
	y := fill(t, nil, put("a", 1, ""), put("b", 1, ""))
	if len(y.Level(1)) != 0 || len(y.Level(0)) != 2 {
		t.Error("without heights")
	}
}

func before(a, b api.Entry) int {
	if c := bytes.Compare(a.Key, b.Key); c != 0 {
		return c
	}
	if a.Seq > b.Seq {
		return -1
	}
	return 1
}

// P5.3 to P5.6 against a sorted list.
func TestAgainstList(t *testing.T) {
	r := rand.New(rand.NewSource(5))
	for range 60 {
		heights := make([]int, r.Intn(20))
		for i := range heights {
			heights[i] = 1 + r.Intn(5)
		}
		var l []api.Entry
		taken := map[string]bool{}
		total := 0
		for range r.Intn(150) {
			e := put(fmt.Sprintf("k%d", r.Intn(20)), uint64(1+r.Intn(30)), strings.Repeat("v", r.Intn(9)))
			if name := fmt.Sprint(string(e.Key), e.Seq); !taken[name] {
				taken[name] = true
				l = append(l, e)
				total += len(e.Key) + len(e.Value) + 16
			}
		}
		x := fill(t, heights, l...)
		r.Shuffle(len(l), func(i, j int) { l[i], l[j] = l[j], l[i] })
		y := fill(t, heights, l...)
		slices.SortFunc(l, before)
		for _, z := range []*memtable.Table{x, y} {
			if z.Len() != len(l) || z.Bytes() != total || !slices.EqualFunc(z.Level(0), l, same) {
				t.Fatal("the entries")
			}
			for i := range 11 {
				low, high := z.Level(i), z.Level(i+1)
				for _, e := range high {
					if !slices.ContainsFunc(low, func(f api.Entry) bool { return same(e, f) }) {
						t.Fatalf("level %d", i+1)
					}
				}
				if !slices.IsSortedFunc(high, before) {
					t.Fatalf("level %d is not in order", i+1)
				}
			}
			for range 20 {
				key, seq := []byte(fmt.Sprintf("k%d", r.Intn(25))), uint64(r.Intn(32))
				at, found := api.Entry{}, false
				from := []api.Entry{}
				for _, e := range l {
					if !found && bytes.Equal(e.Key, key) && e.Seq <= seq {
						at, found = e, true
					}
					if bytes.Compare(e.Key, key) >= 0 {
						from = append(from, e)
					}
				}
				if e, ok := z.Get(key, seq); ok != found || !same(e, at) {
					t.Fatalf("Get(%s, %d): %v", key, seq, e)
				}
				if !slices.EqualFunc(slices.Collect(z.Scan(key)), from, same) {
					t.Fatalf("Scan(%s)", key)
				}
				if n := z.Steps(key, seq); n != steps(z, key, seq) {
					t.Fatalf("Steps(%s, %d): %d", key, seq, n)
				}
			}
		}
	}
}

// steps counts what a search examines, level by level.
func steps(z *memtable.Table, key []byte, seq uint64) int {
	n := 0
	var at *api.Entry
	for i := 11; i >= 0; i-- {
		for _, e := range z.Level(i) {
			if at != nil && before(e, *at) <= 0 || at != nil && same(e, *at) {
				continue
			}
			n++
			if c := bytes.Compare(e.Key, key); c > 0 || c == 0 && e.Seq <= seq {
				break
			}
			at = &e
		}
	}
	return n
}
