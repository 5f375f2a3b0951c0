package sstable_test

import (
	"bytes"
	"fmt"
	"math/rand"
	"slices"
	"strings"
	"testing"

	"cormorant/api"
	"cormorant/bloom"
	"cormorant/codec"
	"cormorant/sstable"
)

func put(key string, seq uint64, value string) api.Entry {
	return api.Entry{Key: []byte(key), Seq: seq, Value: []byte(value)}
}

func del(key string, seq uint64) api.Entry {
	return api.Entry{Key: []byte(key), Seq: seq, Del: true}
}

func same(a, b api.Entry) bool {
	return bytes.Equal(a.Key, b.Key) && a.Seq == b.Seq && a.Del == b.Del && bytes.Equal(a.Value, b.Value)
}

func build(t *testing.T, l []api.Entry, block, perKey int) []byte {
	t.Helper()
	b, e := sstable.Build(l, block, perKey)
	if e != api.OK {
		t.Fatalf("Build: %d", e)
	}
	return b
}

func open(t *testing.T, b []byte) *sstable.Table {
	t.Helper()
	x, e := sstable.Open(b)
	if e != api.OK {
		t.Fatalf("Open: %d", e)
	}
	return x
}

var example = []api.Entry{put("a", 2, "x"), del("a", 1), put("b", 3, "yz")}

// P4.1
func TestBuildBytes(t *testing.T) {
	b := build(t, example, 64, 10)
	body := []byte{0, 1, 2, 0, 1, 97, 120, 1, 0, 1, 1, 0, 0, 1, 3, 0, 2, 98, 121, 122}
	want, _ := codec.Frame('D', body)
	blockLen := len(want)
	f, _ := codec.Frame('F', []byte{6, 2, 144, 0, 4, 32, 1, 8, 0})
	want = append(want, f...)
	indexAt := len(want)
	f, _ = codec.Frame('I', []byte{1, 0, byte(blockLen), 3, 1, 98})
	want = append(want, f...)
	foot := []byte{0, 0, 0, 0, 0, 0, 0, byte(blockLen), 0, 0, 0, 0, 0, 0, 0, byte(indexAt), 0, 0, 0, 0, 0, 0, 0, 3, 0, 0, 0, 64, 0, 0, 0, 10, 67, 79, 82, 77}
	s := codec.Sum(foot)
	want = append(append(want, foot...), byte(s), byte(s>>8), byte(s>>16), byte(s>>24))
	if !bytes.Equal(b, want) {
		t.Errorf("%v\n%v", b, want)
	}
}

// P4.2: a table whose filter is another one, whole as its frame is, is not what Build returns.
func TestOpenFilter(t *testing.T) {
	b := build(t, example, 64, 10)
	right := []byte{6, 2, 144, 0, 4, 32, 1, 8, 0}
	framed, _ := codec.Frame('F', right)
	if !bytes.Contains(b, framed) {
		t.Fatalf("%v does not hold %v", b, framed)
	}
	for i := range len(right) * 8 {
		filter := slices.Clone(right)
		filter[i/8] ^= 1 << (i % 8)
		other, _ := codec.Frame('F', filter)
		if x, e := sstable.Open(bytes.Replace(b, framed, other, 1)); x != nil || e != api.ErrTableForm {
			t.Errorf("with the filter %v: %d", filter, e)
		}
	}
	if _, e := sstable.Open(bytes.Replace(b, framed, framed, 1)); e != api.OK {
		t.Errorf("with its own filter: %d", e)
	}
}

// P4.1: an entry begins a block exactly if the block would be too long.
func TestBlocks(t *testing.T) {
	a := put("aa", 1, strings.Repeat("x", 43)) // 50 bytes
	for long, blocks := range map[int]int{7: 1, 8: 1, 9: 2} {
		x := open(t, build(t, []api.Entry{a, put("ab", 1, strings.Repeat("y", long))}, 64, 10)) // 6 bytes and the value
		if x.Blocks() != blocks {
			t.Errorf("%d: %d blocks", long, x.Blocks())
		}
	}
	x := open(t, build(t, []api.Entry{put("a", 1, strings.Repeat("x", 99)), put("b", 1, "")}, 64, 10))
	if x.Blocks() != 2 || x.Count() != 2 {
		t.Errorf("%d blocks, %d entries", x.Blocks(), x.Count())
	}
}

func TestBuildErrors(t *testing.T) {
	long := func(n int) string { return strings.Repeat("k", n) }
	cases := []struct {
		l             []api.Entry
		block, perKey int
		want          api.Errno
	}{
		{example, 63, 10, api.ErrArg}, {example, 65537, 10, api.ErrArg}, {example, 64, 0, api.ErrArg}, {example, 64, 31, api.ErrArg}, {nil, 0, 10, api.ErrArg},
		{nil, 64, 10, api.ErrTableMany}, {make([]api.Entry, api.MaxTabled+1), 64, 10, api.ErrTableMany},
		{[]api.Entry{put("", 1, "")}, 64, 10, api.ErrTableEntry},
		{[]api.Entry{put(long(257), 1, "")}, 64, 10, api.ErrTableEntry},
		{[]api.Entry{put("a", 0, "")}, 64, 10, api.ErrTableEntry},
		{[]api.Entry{put("a", api.MaxSeq+1, "")}, 64, 10, api.ErrTableEntry},
		{[]api.Entry{put("a", 1, long(api.MaxValue+1))}, 64, 10, api.ErrTableEntry},
		{[]api.Entry{{Key: []byte("a"), Seq: 1, Del: true, Value: []byte("x")}}, 64, 10, api.ErrTableEntry},
		{[]api.Entry{put("a", 1, ""), put("a", 2, "")}, 64, 10, api.ErrTableOrder},
		{[]api.Entry{put("a", 1, ""), put("a", 1, "")}, 64, 10, api.ErrTableOrder},
		{[]api.Entry{put("b", 1, ""), put("a", 1, "")}, 64, 10, api.ErrTableOrder},
		{[]api.Entry{put("b", 1, ""), put("a", 1, ""), put("", 1, "")}, 64, 10, api.ErrTableOrder},
		{[]api.Entry{put("b", 1, ""), put("", 1, "")}, 64, 10, api.ErrTableEntry},
		{[]api.Entry{put(long(256), api.MaxSeq, long(api.MaxValue))}, 65536, 30, api.OK},
		{[]api.Entry{put("a", 1, "")}, 64, 1, api.OK},
	}
	for i, c := range cases {
		if b, e := sstable.Build(c.l, c.block, c.perKey); e != c.want || e != api.OK && b != nil {
			t.Errorf("%d: %d, want %d", i, e, c.want)
		}
	}
	var l []api.Entry
	for i := range 64 {
		l = append(l, put(fmt.Sprintf("%03d", i), 1, long(api.MaxValue)))
	}
	if _, e := sstable.Build(l, 65536, 10); e != api.ErrTableLong {
		t.Errorf("a long table: %d", e)
	}
	if _, e := sstable.Build(l[:63], 65536, 10); e != api.OK {
		t.Errorf("a table that is long enough: %d", e)
	}
	l = nil
	for i := range api.MaxTabled {
		l = append(l, put(fmt.Sprintf("%05d", i), 1, ""))
	}
	if b, e := sstable.Build(l, 4096, 10); e != api.OK {
		t.Errorf("as many entries as may be: %d", e)
	} else if x := open(t, b); x.Count() != api.MaxTabled {
		t.Errorf("as many entries as may be: %d", x.Count())
	}
	l = nil
	for i := range 8300 {
		l = append(l, put(fmt.Sprintf("%05d%s", i, long(247)), 1, ""))
	}
	if _, e := sstable.Build(l, 64, 10); e != api.ErrTableLong {
		t.Errorf("a long index: %d", e)
	}
}

// P4.3, P4.5
func TestExample(t *testing.T) {
	x := open(t, build(t, example, 64, 10))
	if x.Count() != 3 || x.Blocks() != 1 || string(x.First()) != "a" || string(x.Last()) != "b" || x.Reads() != 0 {
		t.Errorf("%d %d %q %q %d", x.Count(), x.Blocks(), x.First(), x.Last(), x.Reads())
	}
	if e, ok := x.Get([]byte("a"), 9); !ok || !same(e, example[0]) {
		t.Errorf("a at 9: %v", e)
	}
	if e, ok := x.Get([]byte("a"), 1); !ok || !same(e, example[1]) {
		t.Errorf("a at 1: %v", e)
	}
	if e, ok := x.Get([]byte("a"), 0); ok || !same(e, api.Entry{}) {
		t.Errorf("a at 0: %v", e)
	}
	if e, ok := x.Get([]byte("b"), 2); ok || !same(e, api.Entry{}) {
		t.Errorf("b at 2: %v", e)
	}
	e, _ := x.Get([]byte("b"), 3)
	e.Value[0], e.Key[0] = 'q', 'q'
	x.First()[0], x.Last()[0] = 'q', 'q'
	if e, _ := x.Get([]byte("b"), 3); !same(e, example[2]) || string(x.First()) != "a" || string(x.Last()) != "b" {
		t.Error("an answer shares memory")
	}
	l := slices.Collect(x.Scan([]byte("aa")))
	if len(l) != 1 || !same(l[0], example[2]) {
		t.Errorf("Scan of aa: %v", l)
	}
}

func random(r *rand.Rand) []api.Entry {
	var l []api.Entry
	for i := range 1 + r.Intn(60) {
		key := fmt.Sprintf("k%03d", i*3+r.Intn(3))
		seq := uint64(100)
		for range 1 + r.Intn(1+r.Intn(8)) {
			if seq -= uint64(1 + r.Intn(5)); r.Intn(4) == 0 {
				l = append(l, del(key, seq))
			} else {
				l = append(l, put(key, seq, strings.Repeat("v", r.Intn(30))))
			}
		}
	}
	return l
}

// P4.4, P4.7, P4.8
func TestAgainstList(t *testing.T) {
	r := rand.New(rand.NewSource(4))
	for range 60 {
		l := random(r)
		x := open(t, build(t, l, 64+r.Intn(100), 1+r.Intn(30)))
		if x.Count() != len(l) {
			t.Fatalf("Count: %d of %d", x.Count(), len(l))
		}
		for range 40 {
			key := []byte(fmt.Sprintf("k%03d", r.Intn(200)))
			if r.Intn(9) == 0 {
				key = nil
			}
			seq := uint64(70 + r.Intn(35))
			var want []api.Entry
			var first api.Entry
			found := false
			for _, e := range l {
				if bytes.Compare(e.Key, key) >= 0 {
					want = append(want, e)
				}
				if !found && bytes.Equal(e.Key, key) && e.Seq <= seq {
					found, first = true, e
				}
			}
			if !slices.EqualFunc(slices.Collect(x.Scan(key)), want, same) {
				t.Fatalf("Scan of %q", key)
			}
			if e, ok := x.Get(key, seq); ok != found || !same(e, first) {
				t.Fatalf("Get of %q at %d: %v, want %v", key, seq, e, first)
			}
		}
	}
}

// P4.6
func TestReads(t *testing.T) {
	v := strings.Repeat("v", 50)
	l := []api.Entry{put("b", 1, v), put("d", 9, v), put("d", 8, v), put("d", 7, v), put("f", 1, v), put("h", 1, v)}
	x := open(t, build(t, l, 64, 30))
	if x.Blocks() != 6 {
		t.Fatalf("%d blocks", x.Blocks())
	}
	get := func(key string, seq uint64, reads int) {
		t.Helper()
		before := x.Reads()
		x.Get([]byte(key), seq)
		if x.Reads()-before != reads {
			t.Errorf("Get of %q at %d reads %d", key, seq, x.Reads()-before)
		}
	}
	get("a", 9, 0)
	get("z", 9, 0)
	get("b", 1, 1)
	get("b", 0, 2)
	get("d", 9, 1)
	get("d", 8, 2)
	get("d", 7, 3)
	get("d", 6, 4)
	get("h", 0, 1)
	get("f", 0, 2)
	for c := 'c'; c < 'h'; c += 2 {
		filter, _ := bloom.Make([][]byte{[]byte("b"), []byte("d"), []byte("f"), []byte("h")}, 30)
		if !bloom.May(filter, []byte(string(c))) {
			get(string(c), 9, 0)
		}
	}
	scan := func(from string, n, reads int) {
		t.Helper()
		before := x.Reads()
		for range x.Scan([]byte(from)) {
			if n--; n == 0 {
				break
			}
		}
		if x.Reads()-before != reads {
			t.Errorf("Scan of %q reads %d", from, x.Reads()-before)
		}
	}
	scan("", -1, 6)
	scan("c", -1, 5)
	scan("e", -1, 2)
	scan("z", -1, 0)
	scan("", 2, 2)
	few := open(t, build(t, []api.Entry{put("b", 1, v), put("d", 1, v), put("f", 1, v)}, 64, 1))
	filter, _ := bloom.Make([][]byte{[]byte("b"), []byte("d"), []byte("f")}, 1)
	lied := 0
	for i := range 2000 {
		key := []byte(fmt.Sprint("c", i))
		before := few.Reads()
		if _, ok := few.Get(key, 9); ok {
			t.Errorf("%q is there", key)
		}
		want := 0
		if bloom.May(filter, key) {
			want = 1
			lied++
		}
		if few.Reads()-before != want {
			t.Fatalf("Get of %q reads %d", key, few.Reads()-before)
		}
	}
	if lied == 0 {
		t.Error("the filter never lies")
	}
	two := open(t, build(t, []api.Entry{put("a", 1, "x"), put("c", 1, "x")}, 64, 30))
	for range two.Scan([]byte("b")) {
	}
	if two.Reads() != 1 {
		t.Errorf("a skipped first entry: %d", two.Reads())
	}
}

// P4.2, P4.7
func TestOpenRejects(t *testing.T) {
	l := []api.Entry{put("aa", 2, "x"), del("ab", 1), put("b", 300, strings.Repeat("y", 70)), put("c", 1, "")}
	b := build(t, l, 64, 10)
	for i := range b {
		for _, d := range []byte{1, 128, 255} {
			g := slices.Clone(b)
			g[i] += d
			if x, e := sstable.Open(g); x != nil || e != api.ErrTableForm {
				t.Fatalf("byte %d changed: %d", i, e)
			}
		}
		if _, e := sstable.Open(b[:i]); e != api.ErrTableForm {
			t.Fatalf("%d bytes: %d", i, e)
		}
		if i > 0 {
			if _, e := sstable.Open(b[i:]); e != api.ErrTableForm {
				t.Fatalf("from %d on: %d", i, e)
			}
		}
	}
	if _, e := sstable.Open(append(slices.Clone(b), 0)); e != api.ErrTableForm {
		t.Errorf("a byte more: %d", e)
	}
	if _, e := sstable.Open(make([]byte, api.MaxTable+1)); e != api.ErrTableForm {
		t.Errorf("too long: %d", e)
	}
	// A table that is whole but not as Build lays it: its one block made two.
	one := build(t, []api.Entry{put("a", 1, "x"), put("b", 1, "x")}, 64, 10)
	var forged []byte
	for _, body := range [][]byte{{0, 1, 1, 0, 1, 97, 120}, {0, 1, 1, 0, 1, 98, 120}} {
		f, _ := codec.Frame('D', body)
		forged = append(forged, f...)
	}
	filter, _ := bloom.Make([][]byte{[]byte("a"), []byte("b")}, 10)
	f, _ := codec.Frame('F', filter)
	at := len(forged)
	forged = append(forged, f...)
	indexAt := len(forged)
	f, _ = codec.Frame('I', []byte{2, 0, 13, 1, 1, 97, 13, 13, 1, 1, 98})
	forged = append(forged, f...)
	foot := slices.Clone(one[len(one)-40 : len(one)-4])
	foot[7], foot[15] = byte(at), byte(indexAt)
	s := codec.Sum(foot)
	forged = append(append(forged, foot...), byte(s), byte(s>>8), byte(s>>16), byte(s>>24))
	if _, e := sstable.Open(forged); e != api.ErrTableForm {
		t.Errorf("another layout: %d", e)
	}
	in := slices.Clone(b)
	x := open(t, in)
	clear(in)
	if e, ok := x.Get([]byte("b"), 300); !ok || !same(e, l[2]) {
		t.Error("the table keeps what was handed in")
	}
}
