package wal_test

import (
	"bytes"
	"fmt"
	"math"
	"math/rand"
	"slices"
	"strings"
	"testing"

	"cormorant/api"
	"cormorant/codec"
	"cormorant/vdisk"
	"cormorant/wal"
)

func put(key, value string) api.Op { return api.Op{Key: []byte(key), Value: []byte(value)} }

func del(key string) api.Op { return api.Op{Del: true, Key: []byte(key)} }

func encode(t *testing.T, seq uint64, ops ...api.Op) []byte {
	t.Helper()
	b, e := wal.Encode(api.Batch{Seq: seq, Ops: ops})
	if e != api.OK {
		t.Fatalf("Encode: %d", e)
	}
	return b
}

func sameBatch(a, b api.Batch) bool {
	return a.Seq == b.Seq && slices.EqualFunc(a.Ops, b.Ops, func(x, y api.Op) bool {
		return x.Del == y.Del && bytes.Equal(x.Key, y.Key) && bytes.Equal(x.Value, y.Value)
	})
}

func newDisk(size int) *vdisk.Disk {
	d, _ := vdisk.New(size)
	return d
}

// P6.1
func TestEncode(t *testing.T) {
	want, _ := codec.Frame(66, []byte{1, 2, 0, 1, 97, 1, 120, 1, 1, 98})
	if b := encode(t, 1, put("a", "x"), del("b")); !bytes.Equal(b, want) {
		t.Errorf("%v", b)
	}
	long := strings.Repeat("k", 257)
	value := strings.Repeat("v", api.MaxValue)
	many := make([]api.Op, api.MaxOps)
	for i := range many {
		many[i] = put("k", "v")
	}
	sixteen := slices.Repeat([]api.Op{put("k", value)}, 15)
	cases := []struct {
		seq  uint64
		ops  []api.Op
		want api.Errno
	}{
		{0, nil, api.ErrWalOps}, {1, append(slices.Clone(many), put("k", "v")), api.ErrWalOps}, {1, many, api.OK},
		{1, []api.Op{put("", "x")}, api.ErrWalOps}, {1, []api.Op{put(long, "x")}, api.ErrWalOps}, {1, []api.Op{put(long[1:], "x")}, api.OK},
		{1, []api.Op{put("k", value+"v")}, api.ErrWalOps}, {1, []api.Op{put("k", value)}, api.OK},
		{0, []api.Op{{Del: true, Key: []byte("k"), Value: []byte("v")}}, api.ErrWalOps},
		{0, []api.Op{put("k", "")}, api.ErrWalSeq}, {math.MaxUint64, []api.Op{put("k", "")}, api.ErrWalSeq},
		{api.MaxSeq, []api.Op{put("k", "")}, api.ErrWalSeq}, {api.MaxSeq - 1, []api.Op{put("k", "")}, api.OK},
		{api.MaxSeq - 1, []api.Op{put("k", ""), put("k", "")}, api.ErrWalSeq},
		{0, append(slices.Clone(sixteen), put("k", value)), api.ErrWalSeq},
		{1, append(slices.Clone(sixteen), put("k", value)), api.ErrWalLong},
		{1, append(slices.Clone(sixteen), put("k", value[:65438])), api.OK},
		{1, append(slices.Clone(sixteen), put("k", value[:65439])), api.ErrWalLong},
	}
	for i, c := range cases {
		b, e := wal.Encode(api.Batch{Seq: c.seq, Ops: c.ops})
		if e != c.want || e != api.OK && b != nil {
			t.Errorf("%d: %d, want %d (%d bytes)", i, e, c.want, len(b))
		}
	}
}

func frame(kind byte, body ...byte) []byte {
	b, _ := codec.Frame(kind, body)
	return b
}

// P6.2
func TestReplay(t *testing.T) {
	one := encode(t, 1, put("a", "x"), del("b"))
	if len(one) != 16 {
		t.Fatalf("%d bytes", len(one))
	}
	three := encode(t, 3, put("c", ""))
	cases := []struct {
		b       []byte
		batches int
		n       int
		want    api.Errno
	}{
		{nil, 0, 0, api.OK}, {one, 1, 16, api.OK}, {slices.Concat(one, three), 2, 16 + len(three), api.OK},
		{slices.Concat(one, []byte{66, 3}), 1, 16, api.ErrCodecShort},
		{slices.Concat(one, one), 1, 16, api.ErrWalSeq},
		{three, 1, len(three), api.OK},
		{slices.Concat(three, one), 1, len(three), api.ErrWalSeq},
		{slices.Concat(one, []byte{66, 0x80, 0}), 1, 16, api.ErrCodecForm},
		{slices.Concat(one, []byte{66, 0x81, 0x80, 0x80, 1}), 1, 16, api.ErrCodecLong},
		{slices.Concat(one, []byte{66, 0, 0, 0, 0, 0}), 1, 16, api.ErrCodecSum},
		{frame(67, 1, 1, 1, 1, 98), 0, 0, api.ErrWalForm}, {frame(66, 1, 1, 1, 1, 98), 1, 11, api.OK},
		{frame(66), 0, 0, api.ErrWalForm}, {frame(66, 1), 0, 0, api.ErrWalForm}, {frame(66, 1, 0), 0, 0, api.ErrWalForm},
		{frame(66, 0, 1, 1, 1, 98), 0, 0, api.ErrWalForm}, {frame(66, 1, 1, 2, 1, 98), 0, 0, api.ErrWalForm},
		{frame(66, 1, 1, 1, 0), 0, 0, api.ErrWalForm}, {frame(66, 1, 1, 1, 1, 98, 0), 0, 0, api.ErrWalForm},
		{frame(66, 1, 2, 1, 1, 98), 0, 0, api.ErrWalForm}, {frame(66, 1, 1, 0, 1, 98), 0, 0, api.ErrWalForm},
		{slices.Concat(one, frame(66, 1, 1, 1, 0)), 1, 16, api.ErrWalForm},
	}
	for i, c := range cases {
		l, n, e := wal.Replay(c.b)
		if len(l) != c.batches || n != c.n || e != c.want {
			t.Errorf("%d: %d batches, %d bytes, %d", i, len(l), n, e)
		}
	}
	full := encode(t, 1, slices.Repeat([]api.Op{del("k")}, api.MaxOps)...)
	if l, n, e := wal.Replay(full); len(l) != 1 || n != len(full) || e != api.OK {
		t.Errorf("as many operations as may be: %d %d", n, e)
	}
	l, _, _ := wal.Replay(one)
	if !sameBatch(l[0], api.Batch{Seq: 1, Ops: []api.Op{put("a", "x"), del("b")}}) {
		t.Errorf("%v", l)
	}
}

// P6.3, P6.4, P6.5
func TestOpenAndAppend(t *testing.T) {
	if l, b, n, e := wal.Open(nil, "w"); l != nil || b != nil || n != 0 || e != api.ErrArg {
		t.Errorf("of no disk: %d", e)
	}
	d := newDisk(10000)
	l, b, n, e := wal.Open(d, "w")
	if e != api.OK || len(b) != 0 || n != 0 || len(d.List()) != 0 || l.Next() != 1 {
		t.Fatalf("of no file: %d", e)
	}
	for _, seq := range []uint64{0, api.MaxSeq + 1} {
		if e := l.Start(seq); e != api.ErrWalSeq || l.Next() != 1 {
			t.Errorf("Start: %d", e)
		}
	}
	if e := l.Start(api.MaxSeq); e != api.OK || l.Next() != api.MaxSeq {
		t.Errorf("Start: %d", e)
	}
	if e := l.Append([]api.Op{del("a")}); e != api.ErrWalSeq {
		t.Errorf("at the end: %d", e)
	}
	if e := l.Start(1); e != api.OK || l.Next() != 1 {
		t.Errorf("Start: %d", e)
	}
	if e := l.Start(5); e != api.OK || l.Next() != 5 {
		t.Errorf("Start: %d", e)
	}
	if e := l.Append(nil); e != api.ErrWalOps {
		t.Errorf("Append: %d", e)
	}
	if e := l.Append([]api.Op{put("a", "x"), del("b")}); e != api.OK || l.Next() != 7 || d.Count() != 2 || len(d.Pending()) != 0 {
		t.Errorf("Append: %d, %d changes", e, d.Count())
	}
	if e := l.Start(9); e != api.ErrWalSeq || l.Next() != 7 {
		t.Errorf("Start: %d", e)
	}
	l.Append([]api.Op{put("c", "")})
	whole, _ := d.Read("w")
	m, b, n, e := wal.Open(d, "w")
	if e != api.OK || len(b) != 2 || n != 0 || m.Next() != 8 || m.Start(1) != api.ErrWalSeq || d.Count() != 4 {
		t.Errorf("Open again: %d %d", e, len(b))
	}
	d.Append("w", []byte("torn"))
	d.Append("tmp-w", []byte("old"))
	count := d.Count()
	_, b, n, e = wal.Open(d, "w")
	again, _ := d.Read("w")
	if e != api.OK || len(b) != 2 || n != 4 || !bytes.Equal(again, whole) || !slices.Equal(d.List(), []string{"w"}) || d.Count() != count+4 || len(d.Pending()) != 0 {
		t.Errorf("cut: %d, %d bytes, %v", e, n, d.List())
	}
	name := strings.Repeat("w", 29)
	d.Append(name, []byte("x"))
	if _, _, _, e := wal.Open(d, name); e != api.ErrDiskName {
		t.Errorf("a long name: %d", e)
	}
	bad, _, _, e := wal.Open(d, "BAD")
	if e != api.OK || bad.Append([]api.Op{del("a")}) != api.ErrDiskName || bad.Next() != 1 {
		t.Errorf("a bad name: %d", e)
	}
}

func TestAppendErrors(t *testing.T) {
	d := newDisk(30)
	l, _, _, _ := wal.Open(d, "w")
	if e := l.Append([]api.Op{put("a", strings.Repeat("x", 30))}); e != api.ErrDiskFull || l.Next() != 1 {
		t.Errorf("full: %d", e)
	}
	if e := l.Append([]api.Op{put("a", "x")}); e != api.OK {
		t.Errorf("then: %d", e)
	}
	d.Arm(2, -1)
	if e := l.Append([]api.Op{put("a", "x")}); e != api.ErrDiskOff || l.Next() != 2 {
		t.Errorf("off: %d", e)
	}
	d.Restart([]int{99})
	if e := l.Append(nil); e != api.ErrWalSick {
		t.Errorf("sick: %d", e)
	}
	m, b, _, e := wal.Open(d, "w")
	if e != api.OK || len(b) != 2 || m.Next() != 3 {
		t.Errorf("Open: %d %d", len(b), e)
	}
	d.Arm(1, -1)
	d.Append("q", nil)
	if _, _, _, e := wal.Open(d, "w"); e != api.ErrDiskOff {
		t.Errorf("Open: %d", e)
	}
	if e := m.Append([]api.Op{put("a", "x")}); e != api.ErrDiskOff {
		t.Errorf("off: %d", e)
	}
}

// P6.6
func TestCrashes(t *testing.T) {
	r := rand.New(rand.NewSource(6))
	for n := range 40 {
		for range 12 {
			d := newDisk(10000)
			l, _, _, _ := wal.Open(d, "w")
			d.Arm(n+1, r.Intn(30)-2)
			var done []api.Batch
			var last api.Batch
			for i := 0; ; i++ {
				last = api.Batch{Seq: l.Next()}
				for range 1 + r.Intn(3) {
					last.Ops = append(last.Ops, put(fmt.Sprint("k", i), strings.Repeat("v", r.Intn(9))))
				}
				if l.Append(last.Ops) != api.OK {
					break
				}
				done = append(done, last)
			}
			d.Restart([]int{r.Intn(30)})
			for {
				d.Arm(r.Intn(7), r.Intn(30)-3)
				_, got, _, e := wal.Open(d, "w")
				if e != api.OK {
					d.Restart([]int{r.Intn(30), r.Intn(30)})
					continue
				}
				if len(got) == len(done)+1 {
					done = append(done, last)
				}
				if !slices.EqualFunc(got, done, sameBatch) {
					t.Fatalf("at change %d: %d batches of %d", n+1, len(got), len(done))
				}
				break
			}
		}
	}
}

// P6.7
func TestTorn(t *testing.T) {
	var b []byte
	var ends []int
	for i := range 4 {
		b = append(b, encode(t, uint64(1+2*i), put("key", strings.Repeat("v", i)), del("k"))...)
		ends = append(ends, len(b))
	}
	for i := range len(b) + 1 {
		whole := 0
		for whole < len(ends) && ends[whole] <= i {
			whole++
		}
		n := 0
		if whole > 0 {
			n = ends[whole-1]
		}
		l, k, e := wal.Replay(b[:i])
		if len(l) != whole || k != n || (e == api.OK) != (i == n) {
			t.Fatalf("%d bytes: %d batches, %d, %d", i, len(l), k, e)
		}
		if i < len(b) && i-n >= 2 {
			for _, d := range []byte{1, 128} {
				g := slices.Clone(b)
				g[i] ^= d
				if l, k, e := wal.Replay(g); len(l) != whole || k != n || e != api.ErrCodecSum {
					t.Fatalf("byte %d changed: %d batches, %d, %d", i, len(l), k, e)
				}
			}
		}
	}
}
