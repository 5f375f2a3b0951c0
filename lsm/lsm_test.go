package lsm_test

import (
	"bytes"
	"fmt"
	"maps"
	"math/rand"
	"reflect"
	"slices"
	"strings"
	"testing"

	"cormorant/api"
	"cormorant/codec"
	"cormorant/lsm"
	"cormorant/sstable"
	"cormorant/vdisk"
	"cormorant/wal"
)

var small = api.StoreConfig{MemBytes: 40, BlockBytes: 64, PerKey: 10, Fanout: 1}

func put(key, value string) api.Op { return api.Op{Key: []byte(key), Value: []byte(value)} }

func del(key string) api.Op { return api.Op{Del: true, Key: []byte(key)} }

func newDisk(size int) *vdisk.Disk {
	d, _ := vdisk.New(size)
	return d
}

func open(t *testing.T, d *vdisk.Disk, c api.StoreConfig) (*lsm.Store, api.StoreFound) {
	t.Helper()
	s, found, e := lsm.Open(d, c)
	if e != api.OK {
		t.Fatalf("Open: %d", e)
	}
	return s, found
}

func code(t *testing.T, what string, got, want api.Errno) {
	t.Helper()
	if got != want {
		t.Errorf("%s: %d, want %d", what, got, want)
	}
}

func files(t *testing.T, d *vdisk.Disk, want string) {
	t.Helper()
	if got := strings.Join(d.List(), " "); got != want {
		t.Errorf("files %s, want %s", got, want)
	}
}

// table holds a file to the bytes of a table of one block, 64 bytes at most, 10 bits a key.
func table(t *testing.T, d *vdisk.Disk, name string, block, filter []byte, count byte, last string) {
	t.Helper()
	want, _ := codec.Frame('D', block)
	filterAt := byte(len(want))
	f, _ := codec.Frame('F', filter)
	want = append(want, f...)
	indexAt := byte(len(want))
	f, _ = codec.Frame('I', append([]byte{1, 0, filterAt, count, byte(len(last))}, last...))
	want = append(want, f...)
	foot := []byte{0, 0, 0, 0, 0, 0, 0, filterAt, 0, 0, 0, 0, 0, 0, 0, indexAt, 0, 0, 0, 0, 0, 0, 0, count, 0, 0, 0, 64, 0, 0, 0, 10, 67, 79, 82, 77}
	s := codec.Sum(foot)
	want = append(append(want, foot...), byte(s), byte(s>>8), byte(s>>16), byte(s>>24))
	if got, e := d.Read(name); e != api.OK || !bytes.Equal(got, want) {
		t.Errorf("%s: %v, want %v", name, got, want)
	}
}

func text(l []api.KV) string {
	var s []string
	for _, kv := range l {
		s = append(s, string(kv.Key)+"="+string(kv.Value))
	}
	return strings.Join(s, " ")
}

// The chapter's example.
func TestExample(t *testing.T) {
	d := newDisk(100000)
	s, found := open(t, d, small)
	if found != (api.StoreFound{}) {
		t.Errorf("Found: %v", found)
	}
	files(t, d, "cur")
	code(t, "Write", s.Write([]api.Op{put("a", "1"), put("b", "2")}), api.OK)
	code(t, "Write", s.Write([]api.Op{del("a")}), api.OK)
	if v, ok, e := s.Get([]byte("a")); v != nil || ok || e != api.OK || s.Seq() != 3 {
		t.Errorf("Get: %q %v %d", v, ok, e)
	}
	if l, e := s.Scan(api.Span{}); text(l) != "b=2" || e != api.OK {
		t.Errorf("Scan: %s %d", text(l), e)
	}
	files(t, d, "cur w1")
	code(t, "Write", s.Write([]api.Op{put("c", "3")}), api.OK)
	files(t, d, "cur t2 w3")
	table(t, d, "t2", []byte{0, 1, 3, 1, 0, 97, 0, 1, 2, 0, 1, 98, 50}, []byte{6, 2, 144, 0, 4, 32, 1, 8, 0}, 2, "b")
	want := make([][]api.TableInfo, 7)
	want[0] = []api.TableInfo{{File: 2, Entries: 2, First: []byte("a"), Last: []byte("b")}}
	if got := s.Levels(); !reflect.DeepEqual(got, want) {
		t.Errorf("Levels: %v", got)
	}
	snap, e := s.Snap()
	if snap != 4 || e != api.OK {
		t.Errorf("Snap: %d %d", snap, e)
	}
	code(t, "Write", s.Write([]api.Op{del("b")}), api.OK)
	if v, ok, e := s.GetAt([]byte("b"), 4); string(v) != "2" || !ok || e != api.OK {
		t.Errorf("GetAt: %q %v %d", v, ok, e)
	}
	if _, ok, _ := s.Get([]byte("b")); ok {
		t.Error("b is there")
	}
	d.Restart(nil)
	s, found = open(t, d, small)
	if found != (api.StoreFound{Tables: 1, Batches: 2}) || s.Seq() != 5 {
		t.Errorf("Found: %v", found)
	}
	if l, _ := s.Scan(api.Span{}); text(l) != "c=3" {
		t.Errorf("Scan: %s", text(l))
	}
	if v, ok, e := s.GetAt([]byte("c"), 4); v != nil || ok || e != api.ErrStoreSnap {
		t.Errorf("a snapshot lasts: %d", e)
	}
	b, _ := d.Read("cur")
	frame, _ := codec.Frame(77, []byte{4, 3, 3, 1, 2, 0, 0, 0, 0, 0, 0})
	if !bytes.Equal(b, frame) {
		t.Errorf("the manifest: %v", b)
	}
}

// P7.1
func TestOpenArguments(t *testing.T) {
	bad := []api.StoreConfig{
		{MemBytes: 0, BlockBytes: 64, PerKey: 1, Fanout: 1}, {MemBytes: 262145, BlockBytes: 64, PerKey: 1, Fanout: 1},
		{MemBytes: 1, BlockBytes: 63, PerKey: 1, Fanout: 1}, {MemBytes: 1, BlockBytes: 65537, PerKey: 1, Fanout: 1},
		{MemBytes: 1, BlockBytes: 64, PerKey: 0, Fanout: 1}, {MemBytes: 1, BlockBytes: 64, PerKey: 31, Fanout: 1},
		{MemBytes: 1, BlockBytes: 64, PerKey: 1, Fanout: 0}, {MemBytes: 1, BlockBytes: 64, PerKey: 1, Fanout: 17},
		{MemBytes: 1, BlockBytes: 64, PerKey: 1, Fanout: 1, Heights: make([]int, 257)},
	}
	for i, c := range bad {
		if s, _, e := lsm.Open(newDisk(1000), c); s != nil || e != api.ErrArg {
			t.Errorf("%d: %d", i, e)
		}
	}
	if _, _, e := lsm.Open(nil, small); e != api.ErrArg {
		t.Errorf("no disk: %d", e)
	}
	open(t, newDisk(1000), api.StoreConfig{MemBytes: 262144, BlockBytes: 65536, PerKey: 30, Fanout: 16, Heights: make([]int, 256)})
	if _, _, e := lsm.Open(newDisk(10), small); e != api.ErrDiskFull {
		t.Errorf("a small disk: %d", e)
	}
	d := newDisk(1000)
	d.Arm(1, -1)
	if _, _, e := lsm.Open(d, small); e != api.ErrDiskOff {
		t.Errorf("off: %d", e)
	}
	if _, _, e := lsm.Open(d, small); e != api.ErrDiskOff {
		t.Errorf("off: %d", e)
	}
}

func manifest(numbers ...uint64) []byte {
	var body []byte
	for _, n := range numbers {
		body = append(body, codec.Number(n)...)
	}
	b, _ := codec.Frame(77, body)
	return b
}

func tableOf(keys ...string) []byte {
	var l []api.Entry
	for i, k := range keys {
		l = append(l, api.Entry{Key: []byte(k), Seq: uint64(1 + i), Value: []byte("v")})
	}
	b, _ := sstable.Build(l, 64, 10)
	return b
}

// P7.1
func TestManifests(t *testing.T) {
	other, _ := codec.Frame(78, []byte{4, 3, 3, 0, 0, 0, 0, 0, 0, 0})
	cases := []struct {
		b    []byte
		want api.Errno
	}{
		{manifest(9, 3, 3, 0, 0, 0, 0, 0, 0, 0), api.OK},
		{manifest(9, 3, 1<<62, 0, 0, 0, 0, 0, 0, 0), api.ErrStoreForm},
		{manifest(9, 3, 1<<62-1, 0, 0, 0, 0, 0, 0, 0), api.OK},
		{manifest(9, 3, 1<<64-1, 0, 0, 0, 0, 0, 0, 0), api.ErrStoreForm},
		{nil, api.ErrStoreForm}, {other, api.ErrStoreForm}, {append(manifest(9, 3, 3, 0, 0, 0, 0, 0, 0, 0), 0), api.ErrStoreForm},
		{manifest(9, 3, 3, 0, 0, 0, 0, 0, 0), api.ErrStoreForm}, {manifest(9, 3, 3, 0, 0, 0, 0, 0, 0, 0, 0), api.ErrStoreForm},
		{manifest(9, 0, 3, 0, 0, 0, 0, 0, 0, 0), api.ErrStoreForm}, {manifest(9, 9, 3, 0, 0, 0, 0, 0, 0, 0), api.ErrStoreForm},
		{manifest(9, 8, 3, 0, 0, 0, 0, 0, 0, 0), api.OK}, {manifest(0, 0, 3, 0, 0, 0, 0, 0, 0, 0), api.ErrStoreForm},
		{manifest(1<<31, 3, 3, 0, 0, 0, 0, 0, 0, 0), api.OK}, {manifest(1<<31+1, 3, 3, 0, 0, 0, 0, 0, 0, 0), api.ErrStoreForm},
		{manifest(9, 3, 3, 1, 4, 0, 0, 0, 0, 0, 0), api.OK}, {manifest(9, 3, 3, 1, 0, 0, 0, 0, 0, 0, 0), api.ErrStoreForm},
		{manifest(9, 3, 3, 1, 3, 0, 0, 0, 0, 0, 0), api.ErrStoreForm}, {manifest(9, 3, 3, 1, 9, 0, 0, 0, 0, 0, 0), api.ErrStoreForm},
		{manifest(9, 3, 3, 2, 4, 4, 0, 0, 0, 0, 0, 0), api.ErrStoreForm}, {manifest(9, 3, 3, 1, 4, 1, 4, 0, 0, 0, 0, 0), api.ErrStoreForm},
		{manifest(9, 3, 3, 2, 4, 5, 0, 0, 0, 0, 0, 0), api.OK}, {manifest(9, 3, 3, 0, 2, 4, 5, 0, 0, 0, 0, 0), api.OK},
		{manifest(9, 3, 3, 0, 2, 5, 4, 0, 0, 0, 0, 0), api.ErrStoreForm}, {manifest(9, 3, 3, 2, 5, 4, 0, 0, 0, 0, 0, 0), api.OK},
		{manifest(9, 3, 3, 0, 2, 4, 6, 0, 0, 0, 0, 0), api.ErrStoreForm}, {manifest(9, 3, 3, 1, 7, 0, 0, 0, 0, 0, 0), api.ErrStoreForm},
		{manifest(9, 3, 3, 1, 8, 0, 0, 0, 0, 0, 0), api.ErrStoreForm}, {manifest(9, 3, 3, 0, 0, 0, 0, 0, 0, 9), api.ErrStoreForm},
		{manifest(9, 3, 3, 1<<63, 4, 0, 0, 0, 0, 0, 0), api.ErrStoreForm},
	}
	for i, c := range cases {
		d := newDisk(10000)
		d.Append("cur", c.b)
		d.Append("t4", tableOf("a", "c"))
		d.Append("t5", tableOf("d", "e"))
		d.Append("t6", tableOf("c", "e"))
		d.Append("t8", []byte("no table"))
		count := d.Count()
		s, _, e := lsm.Open(d, small)
		if e != c.want || e != api.OK && (s != nil || d.Count() != count && i > 3) {
			t.Errorf("%d: %d, want %d", i, e, c.want)
		}
	}
}

// P7.1
func TestLogAndOrphans(t *testing.T) {
	d := newDisk(10000)
	d.Append("cur", manifest(9, 3, 3, 1, 4, 0, 0, 0, 0, 0, 0))
	d.Append("t4", tableOf("a", "c"))
	for _, name := range []string{"t5", "t3", "w4", "t0", "w99999999999999999999", "cur.tmp", "tmp-w3", "tmp-w7", "t04", "tx", "t", "w", "tmp-t4", "tmp-w", "tmp-w01", "x1", "cur.tmp2", "tmp-x"} {
		d.Append(name, []byte("z"))
	}
	b, _ := wal.Encode(api.Batch{Seq: 4, Ops: []api.Op{put("b", "2"), del("c")}})
	d.Append("w3", b)
	d.Append("w3", []byte{66, 3})
	s, found := open(t, d, small)
	if found != (api.StoreFound{Tables: 1, Batches: 1, Cut: 2, Orphans: 8}) || s.Seq() != 5 {
		t.Errorf("Found: %v, %d", found, s.Seq())
	}
	files(t, d, "cur cur.tmp2 t t04 t4 tmp-t4 tmp-w tmp-w01 tmp-x tx w w3 x1")
	if l, _ := s.Scan(api.Span{}); text(l) != "a=v b=2" {
		t.Errorf("%s", text(l))
	}
	for seq, want := range map[uint64]api.Errno{4: api.OK, 3: api.ErrStoreForm, 5: api.ErrStoreForm} {
		d := newDisk(10000)
		d.Append("cur", manifest(9, 3, 3, 0, 0, 0, 0, 0, 0, 0))
		b, _ := wal.Encode(api.Batch{Seq: seq, Ops: []api.Op{put("b", "2")}})
		d.Append("w3", b)
		if _, _, e := lsm.Open(d, small); e != want {
			t.Errorf("a log from %d on: %d", seq, e)
		}
	}
	d = newDisk(10000)
	d.Append("cur.tmp", []byte("z"))
	d.Append("t7", []byte("z"))
	d.Append("w1", b)
	if _, _, e := lsm.Open(d, small); e != api.ErrStoreForm {
		t.Errorf("a log without a manifest: %d", e)
	}
	files(t, d, "cur w1")
}

// P7.2
func TestClosedAndSick(t *testing.T) {
	check := func(s *lsm.Store, want api.Errno) {
		t.Helper()
		code(t, "Write", s.Write(nil), want)
		v, ok, e := s.Get([]byte("a"))
		code(t, "Get", e, want)
		if v != nil || ok {
			t.Error("Get")
		}
		v, ok, e = s.GetAt([]byte("a"), 77)
		code(t, "GetAt", e, want)
		if v != nil || ok {
			t.Error("GetAt")
		}
		l, e := s.Scan(api.Span{})
		code(t, "Scan", e, want)
		m, e := s.ScanAt(api.Span{}, 77)
		code(t, "ScanAt", e, want)
		if len(l)+len(m) > 0 {
			t.Error("Scan")
		}
		for range s.All() {
			t.Error("All")
		}
		if s.Seq() != 0 || len(s.Levels()) != 0 {
			t.Error("Seq or Levels")
		}
		_, e = s.Snap()
		code(t, "Snap", e, want)
		code(t, "Release", s.Release(77), want)
		code(t, "Flush", s.Flush(), want)
		_, e = s.Compact()
		code(t, "Compact", e, want)
		code(t, "Close", s.Close(), want)
	}
	d := newDisk(10000)
	s, _ := open(t, d, small)
	s.Write([]api.Op{put("a", "1")})
	code(t, "Close", s.Close(), api.OK)
	check(s, api.ErrStoreClosed)
	s, _ = open(t, d, small)
	d.Arm(1, 3)
	code(t, "Write", s.Write([]api.Op{put("a", "2")}), api.ErrDiskOff)
	check(s, api.ErrStoreSick)
	d.Restart(nil)
	check(s, api.ErrStoreSick)
	s, _ = open(t, d, small)
	if l, _ := s.Scan(api.Span{}); text(l) != "a=1" {
		t.Errorf("%s", text(l))
	}
	d.Arm(1, -1)
	code(t, "Flush", s.Flush(), api.ErrDiskOff)
	check(s, api.ErrStoreSick)
}

// P7.3
func TestWriteErrors(t *testing.T) {
	d := newDisk(400)
	s, _ := open(t, d, small)
	code(t, "none", s.Write(nil), api.ErrWalOps)
	code(t, "too many", s.Write(make([]api.Op, 257)), api.ErrWalOps)
	code(t, "a key", s.Write([]api.Op{put("", "")}), api.ErrWalOps)
	value := strings.Repeat("v", api.MaxValue)
	code(t, "too long", s.Write(slices.Repeat([]api.Op{put("a", value)}, 16)), api.ErrWalLong)
	code(t, "full", s.Write([]api.Op{put("a", value)}), api.ErrDiskFull)
	if s.Seq() != 0 {
		t.Error("Seq")
	}
	code(t, "Write", s.Write([]api.Op{put("a", strings.Repeat("v", 200))}), api.OK)
	before := d.List()
	used := d.Used()
	code(t, "a full disk", s.Write([]api.Op{put("b", "")}), api.ErrDiskFull)
	if !slices.Equal(d.List(), before) || d.Used() != used || s.Seq() != 1 {
		t.Errorf("it has changed something: %v", d.List())
	}
	code(t, "a full disk, wrong", s.Write(nil), api.ErrWalOps)
	code(t, "Flush", s.Flush(), api.ErrDiskFull)
	if v, ok, e := s.Get([]byte("a")); len(v) != 200 || !ok || e != api.OK {
		t.Error("Get")
	}
	op := put("k", "v")
	big, _ := open(t, newDisk(1000), api.StoreConfig{MemBytes: 1000, BlockBytes: 64, PerKey: 10, Fanout: 1})
	big.Write([]api.Op{op})
	op.Key[0], op.Value[0] = 'x', 'x'
	v, _, _ := big.Get([]byte("k"))
	if string(v) != "v" {
		t.Error("it keeps what was handed in")
	}
	v[0] = 'y'
	if v, _, _ = big.Get([]byte("k")); string(v) != "v" {
		t.Error("an answer shares memory")
	}
}

// A flush whose manifest has no room any more takes its table back.
func TestFullDisk(t *testing.T) {
	for size := 60; size < 500; size++ {
		d := newDisk(size)
		s, _, e := lsm.Open(d, small)
		if e != api.OK {
			continue
		}
		s.Write([]api.Op{put("a", "1")})
		seq := s.Seq()
		count := d.Count()
		e = s.Flush()
		switch {
		case e == api.OK && seq == 1:
			files(t, d, "cur t2")
		case e == api.ErrDiskFull:
			files(t, d, "cur w1")
			if made := d.Count() - count; made != 0 && made != 3 {
				t.Errorf("%d changes", made)
			}
		case e != api.OK:
			t.Errorf("Flush: %d", e)
		}
		s2, _ := open(t, d, small)
		if s2.Seq() != seq {
			t.Errorf("Seq %d, %d", s2.Seq(), seq)
		}
	}
}

// P7.4
func TestScan(t *testing.T) {
	d := newDisk(100000)
	s, _ := open(t, d, small)
	for _, k := range []string{"d", "b", "a", "c"} {
		s.Write([]api.Op{put(k, strings.ToUpper(k))})
	}
	for _, c := range []struct{ from, to, want string }{{"", "", "a=A b=B c=C d=D"}, {"b", "", "b=B c=C d=D"}, {"b", "d", "b=B c=C"}, {"aa", "cc", "b=B c=C"}, {"c", "b", ""}, {"c", "c", ""}, {"e", "", ""}, {"", "b", "a=A"}} {
		if l, e := s.Scan(api.Span{From: []byte(c.from), To: []byte(c.to)}); text(l) != c.want || e != api.OK {
			t.Errorf("%s to %s: %s", c.from, c.to, text(l))
		}
	}
	if _, e := s.ScanAt(api.Span{}, 3); e != api.ErrStoreSnap {
		t.Errorf("ScanAt: %d", e)
	}
	if l, e := s.ScanAt(api.Span{}, 4); len(l) != 4 || e != api.OK {
		t.Errorf("ScanAt: %d", e)
	}
	s.Flush()
	for _, c := range []struct{ from, to, want string }{{"d", "", "d=D"}, {"d\x00", "", ""}, {"c", "d", "c=C"}, {"", "a", ""}, {"a", "a\x00", "a=A"}} {
		if l, e := s.Scan(api.Span{From: []byte(c.from), To: []byte(c.to)}); text(l) != c.want || e != api.OK {
			t.Errorf("%s to %s: %s", c.from, c.to, text(l))
		}
	}
	all := s.All()
	s.Write([]api.Op{del("a"), put("e", "E")})
	n := 0
	for k, v := range all {
		if n++; n == 1 {
			s.Write([]api.Op{del("c"), put("f", "")})
		}
		if strings.ToUpper(string(k)) != string(v) {
			t.Errorf("%s %s", k, v)
		}
	}
	if n != 4 {
		t.Errorf("All: %d", n)
	}
	for range all {
		break
	}
}

// P7.5
func TestSnaps(t *testing.T) {
	s, _ := open(t, newDisk(100000), small)
	s.Write([]api.Op{put("a", "1")})
	for range 16 {
		if n, e := s.Snap(); n != 1 || e != api.OK {
			t.Fatalf("Snap: %d", e)
		}
	}
	if n, e := s.Snap(); n != 0 || e != api.ErrArg {
		t.Errorf("a 17th: %d", e)
	}
	s.Write([]api.Op{put("a", "2")})
	code(t, "Release", s.Release(2), api.ErrStoreSnap)
	for i := range 16 {
		if v, _, e := s.GetAt([]byte("a"), 1); string(v) != "1" || e != api.OK {
			t.Fatalf("%d: %q %d", i, v, e)
		}
		code(t, "Release", s.Release(1), api.OK)
	}
	code(t, "Release", s.Release(1), api.ErrStoreSnap)
	if _, _, e := s.GetAt([]byte("a"), 1); e != api.ErrStoreSnap {
		t.Errorf("GetAt: %d", e)
	}
}

// P7.6: what flushes and compactions remove, and lay where.
func TestCompact(t *testing.T) {
	d := newDisk(1000000)
	c := api.StoreConfig{MemBytes: 1000, BlockBytes: 64, PerKey: 10, Fanout: 1}
	s, _ := open(t, d, c)
	count := d.Count()
	code(t, "Flush", s.Flush(), api.OK)
	if again, e := s.Compact(); again || e != api.OK || d.Count() != count {
		t.Errorf("Compact: %v %d", again, e)
	}
	s.Write([]api.Op{put("a", "1"), put("b", "1"), put("a", "2"), del("c")})
	count = d.Count()
	code(t, "Flush", s.Flush(), api.OK)
	if d.Count()-count != 6 {
		t.Errorf("a flush makes %d changes", d.Count()-count)
	}
	s.Write([]api.Op{del("a"), put("d", "1"), put("d", "2")})
	code(t, "Flush", s.Flush(), api.OK)
	files(t, d, "cur t2 t4")
	count = d.Count()
	if again, e := s.Compact(); !again || e != api.OK {
		t.Errorf("Compact: %v %d", again, e)
	}
	if d.Count()-count != 7 {
		t.Errorf("a compaction makes %d changes", d.Count()-count)
	}
	table(t, d, "t6", []byte{0, 1, 2, 0, 1, 98, 49, 0, 1, 7, 0, 1, 100, 50}, []byte{6, 2, 144, 0, 4, 32, 1, 72, 0}, 2, "d")
	want := make([][]api.TableInfo, 7)
	want[1] = []api.TableInfo{{File: 6, Entries: 2, First: []byte("b"), Last: []byte("d")}}
	if got := s.Levels(); !reflect.DeepEqual(got, want) {
		t.Errorf("Levels: %v", got)
	}
	if again, _ := s.Compact(); again {
		t.Error("Compact again")
	}
	s.Write([]api.Op{del("b"), del("d")})
	s.Flush()
	s.Write([]api.Op{put("x", "1")})
	s.Flush()
	s.Write([]api.Op{del("x")})
	files(t, d, "cur t11 w10")
}

// P7.6: which tables a compaction takes, and how it divides what remains.
func TestChoice(t *testing.T) {
	d := newDisk(1000000)
	c := api.StoreConfig{MemBytes: 30, BlockBytes: 64, PerKey: 10, Fanout: 3}
	s, _ := open(t, d, c)
	fill := func(keys string) {
		t.Helper()
		for _, k := range keys {
			code(t, "Write", s.Write([]api.Op{put(string(k), "v")}), api.OK)
		}
		code(t, "Flush", s.Flush(), api.OK)
	}
	shown := func(want string) {
		t.Helper()
		var l []string
		for n, level := range s.Levels() {
			for _, x := range level {
				l = append(l, fmt.Sprintf("%d:%s-%s", n, x.First, x.Last))
			}
		}
		if got := strings.Join(l, " "); got != want {
			t.Errorf("%s, want %s", got, want)
		}
	}
	compact := func() {
		t.Helper()
		if again, e := s.Compact(); !again || e != api.OK {
			t.Errorf("Compact: %v %d", again, e)
		}
	}
	for _, k := range []string{"b", "d", "f"} {
		fill(k)
	}
	fill("h")
	compact()
	shown("1:b-f 1:h-h")
	for _, k := range []string{"j", "k", "l"} {
		fill(k)
	}
	fill("m")
	compact()
	shown("1:b-f 1:h-h 1:j-l 1:m-m")
	compact()
	shown("1:h-h 1:j-l 1:m-m 2:b-f")
	for _, k := range []string{"i", "g", "h"} {
		fill(k)
	}
	fill("i")
	before := s.Levels()[1][2].File
	compact()
	shown("1:g-i 1:j-l 1:m-m 2:b-f")
	if s.Levels()[1][2].File != before {
		t.Error("a table that does not overlap was taken")
	}
	for _, k := range []string{"l", "n", "o"} {
		fill(k)
	}
	fill("p")
	compact()
	shown("1:g-i 1:j-l 1:m-o 1:p-p 2:b-f")
}

// P7.6: values count where a compaction divides entries; a compaction that fails says so.
func TestDivide(t *testing.T) {
	c := api.StoreConfig{MemBytes: 50, BlockBytes: 64, PerKey: 10, Fanout: 1}
	for long, tables := range map[int]int{33: 1, 34: 2} {
		d := newDisk(1000000)
		s, _ := open(t, d, c)
		s.Write([]api.Op{put("a", strings.Repeat("v", 33))})
		s.Flush()
		s.Write([]api.Op{put("b", strings.Repeat("v", long))})
		s.Flush()
		broken := d.Copy()
		again, _ := open(t, broken, c)
		broken.Arm(1, -1)
		if done, e := again.Compact(); done || e != api.ErrDiskOff {
			t.Errorf("Compact: %v %d", done, e)
		}
		if done, e := s.Compact(); !done || e != api.OK || len(s.Levels()[1]) != tables {
			t.Errorf("%d: %d tables", long, len(s.Levels()[1]))
		}
	}
}

// P7.3: a memtable that is just full is not flushed. P7.6: what only a snapshot of a newer entry's moment could see goes.
func TestJustFull(t *testing.T) {
	d := newDisk(1000000)
	s, _ := open(t, d, api.StoreConfig{MemBytes: 18, BlockBytes: 64, PerKey: 10, Fanout: 1})
	s.Write([]api.Op{put("a", "1")})
	s.Write([]api.Op{put("a", "2")})
	files(t, d, "cur w1")
	s.Snap()
	s.Flush()
	if n := s.Levels()[0][0].Entries; n != 1 {
		t.Errorf("%d entries", n)
	}
	for _, keep := range []uint64{1, 2} {
		s, _ := open(t, newDisk(1000000), small)
		s.Write([]api.Op{put("a", "1")})
		if keep == 1 {
			s.Snap()
		}
		s.Write([]api.Op{put("a", "2")})
		s.Write([]api.Op{put("a", "3")})
		s.Flush()
		if n := s.Levels()[0][0].Entries; n != 3-int(keep) {
			t.Errorf("%d entries", n)
		}
	}
}

// P7.6: a deletion that only a snapshot of its own moment can see goes.
func TestNeedlessDeletion(t *testing.T) {
	for _, wait := range []int{0, 1} {
		s, _ := open(t, newDisk(1000000), api.StoreConfig{MemBytes: 1000, BlockBytes: 64, PerKey: 10, Fanout: 1})
		s.Write([]api.Op{put("x", "1")})
		if wait == 0 {
			s.Snap()
		}
		s.Write([]api.Op{del("a")})
		if wait == 1 {
			s.Snap()
		}
		s.Flush()
		s.Write([]api.Op{put("z", "1")})
		s.Flush()
		s.Compact()
		if n := s.Levels()[1][0].Entries; n != 3-wait {
			t.Errorf("%d entries", n)
		}
	}
}

// A deletion stays as long as a deeper level may have the key.
func TestDeletionStays(t *testing.T) {
	d := newDisk(1000000)
	c := api.StoreConfig{MemBytes: 20, BlockBytes: 64, PerKey: 10, Fanout: 1}
	s, _ := open(t, d, c)
	r := rand.New(rand.NewSource(9))
	for i := range 200 {
		key := fmt.Sprintf("k%02d", r.Intn(30))
		if i%3 == 0 {
			s.Write([]api.Op{del(key)})
		} else {
			s.Write([]api.Op{put(key, fmt.Sprint(i))})
		}
	}
	snap, _ := s.Snap()
	before, _ := s.Scan(api.Span{})
	for range 3 {
		for i := range 30 {
			s.Write([]api.Op{del(fmt.Sprintf("k%02d", i))})
		}
	}
	after, e := s.ScanAt(api.Span{}, snap)
	if text(after) != text(before) || e != api.OK {
		t.Errorf("%s, %s", text(after), text(before))
	}
	s.Release(snap)
	if l, _ := s.Scan(api.Span{}); len(l) != 0 {
		t.Errorf("%s", text(l))
	}
}

func shape(t *testing.T, s *lsm.Store, d *vdisk.Disk, fanout int, written bool) {
	t.Helper()
	most := 1
	want := []string{"cur"}
	for n, level := range s.Levels() {
		if n == 0 && written && len(level) > fanout || n > 0 && n < 6 && written && len(level) > most {
			t.Fatalf("level %d has %d", n, len(level))
		}
		most *= fanout
		for i, x := range level {
			want = append(want, fmt.Sprint("t", x.File))
			if bytes.Compare(x.First, x.Last) > 0 || n > 0 && i > 0 && bytes.Compare(level[i-1].Last, x.First) >= 0 {
				t.Fatalf("level %d: %v", n, level)
			}
		}
	}
	for _, name := range d.List() {
		if !slices.Contains(want, name) && name[0] != 'w' {
			t.Fatalf("%v, where %v are", d.List(), want)
		}
	}
	if len(d.List()) > len(want)+1 {
		t.Fatalf("%v, where %v are", d.List(), want)
	}
}

func randomOps(r *rand.Rand) []api.Op {
	var ops []api.Op
	for range 1 + r.Intn(4) {
		key := fmt.Sprintf("k%d", r.Intn(25))
		if r.Intn(3) == 0 {
			ops = append(ops, del(key))
		} else {
			ops = append(ops, put(key, strings.Repeat(string(rune('a'+r.Intn(26))), r.Intn(12))))
		}
	}
	return ops
}

func apply(m map[string]string, ops []api.Op) map[string]string {
	m = maps.Clone(m)
	for _, op := range ops {
		if op.Del {
			delete(m, string(op.Key))
		} else {
			m[string(op.Key)] = string(op.Value)
		}
	}
	return m
}

func modelText(m map[string]string) string {
	var l []api.KV
	for _, k := range slices.Sorted(maps.Keys(m)) {
		l = append(l, api.KV{Key: []byte(k), Value: []byte(m[k])})
	}
	return text(l)
}

func randomConfig(r *rand.Rand) api.StoreConfig {
	return api.StoreConfig{MemBytes: 1 + r.Intn(120), BlockBytes: 64 + r.Intn(64), PerKey: 1 + r.Intn(30), Fanout: 1 + r.Intn(3), Heights: []int{1, 3, 2, 1, 5}}
}

// P7.8, P7.10
func TestMap(t *testing.T) {
	r := rand.New(rand.NewSource(78))
	for range 30 {
		d := newDisk(1000000)
		c := randomConfig(r)
		s, _ := open(t, d, c)
		now := map[string]string{}
		snaps := map[uint64]map[string]string{}
		for range 150 {
			written := false
			switch r.Intn(12) {
			case 0:
				code(t, "Flush", s.Flush(), api.OK)
			case 1:
				s.Compact()
			case 2:
				if n, e := s.Snap(); e == api.OK {
					snaps[n] = now
				}
			case 3:
				for n := range snaps {
					for s.Release(n) == api.OK {
					}
					delete(snaps, n)
					break
				}
			case 4:
				if r.Intn(4) == 0 {
					s.Close()
					c = randomConfig(r)
					s, _ = open(t, d, c)
					clear(snaps)
				}
			default:
				ops := randomOps(r)
				code(t, "Write", s.Write(ops), api.OK)
				now = apply(now, ops)
				written = true
			}
			shape(t, s, d, c.Fanout, written)
			l, _ := s.Scan(api.Span{})
			if text(l) != modelText(now) {
				t.Fatalf("%s, want %s", text(l), modelText(now))
			}
			for n, m := range snaps {
				if l, e := s.ScanAt(api.Span{}, n); text(l) != modelText(m) {
					t.Fatalf("at %d: %s, want %s (%d)", n, text(l), modelText(m), e)
				}
				k := fmt.Sprintf("k%d", r.Intn(25))
				v, ok, _ := s.GetAt([]byte(k), n)
				if w, there := m[k]; string(v) != w || ok != there {
					t.Fatalf("%s at %d: %q, want %q", k, n, v, w)
				}
			}
		}
	}
}

// P7.9
func TestCrashes(t *testing.T) {
	r := rand.New(rand.NewSource(79))
	for range 400 {
		d := newDisk(1000000)
		c := randomConfig(r)
		s, _ := open(t, d, c)
		now := map[string]string{}
		for range 5 {
			d.Arm(1+r.Intn(40), r.Intn(60)-10)
			var maybe map[string]string
			for {
				ops := randomOps(r)
				maybe = apply(now, ops)
				if e := s.Write(ops); e != api.OK {
					break
				}
				now = maybe
				if r.Intn(20) == 0 && s.Flush() != api.OK {
					break
				}
			}
			for {
				d.Restart([]int{r.Intn(60), r.Intn(60), r.Intn(60)})
				d.Arm(r.Intn(12), r.Intn(40)-5)
				again, _, e := lsm.Open(d, c)
				if e == api.OK {
					s = again
					break
				}
				if e != api.ErrDiskOff {
					t.Fatalf("Open: %d", e)
				}
			}
			l, _ := s.Scan(api.Span{})
			if text(l) == modelText(maybe) {
				now = maybe
			}
			if text(l) != modelText(now) {
				t.Fatalf("%s, want %s", text(l), modelText(now))
			}
			shape(t, s, d, c.Fanout, false)
		}
	}
}
