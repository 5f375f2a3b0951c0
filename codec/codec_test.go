package codec_test

import (
	"bytes"
	"hash/crc32"
	"math"
	"math/rand"
	"testing"

	"cormorant/api"
	"cormorant/codec"
)

// P1.1
func TestNumber(t *testing.T) {
	cases := []struct {
		n uint64
		b string
	}{{0, "\x00"}, {1, "\x01"}, {127, "\x7f"}, {128, "\x80\x01"}, {300, "\xac\x02"}, {16383, "\xff\x7f"}, {16384, "\x80\x80\x01"}, {1 << 63, "\x80\x80\x80\x80\x80\x80\x80\x80\x80\x01"}, {math.MaxUint64, "\xff\xff\xff\xff\xff\xff\xff\xff\xff\x01"}}
	for _, c := range cases {
		if got := codec.Number(c.n); string(got) != c.b {
			t.Errorf("Number(%d): %v", c.n, got)
		}
		for _, tail := range []string{"", "\x00", "\xff\xff"} {
			n, k, e := codec.TakeNumber([]byte(c.b + tail))
			if n != c.n || k != len(c.b) || e != api.OK {
				t.Errorf("TakeNumber(%q): %d %d %d", c.b+tail, n, k, e)
			}
		}
		for i := range len(c.b) {
			if n, k, e := codec.TakeNumber([]byte(c.b[:i])); n != 0 || k != 0 || e != api.ErrCodecShort {
				t.Errorf("a prefix of %q: %d %d %d", c.b, n, k, e)
			}
		}
	}
	wrong := map[string]api.Errno{
		"\x80\x00":     api.ErrCodecForm,
		"\xff\x00":     api.ErrCodecForm,
		"\x80\x80\x00": api.ErrCodecForm,
		"\xff\xff\xff\xff\xff\xff\xff\xff\xff\x02":     api.ErrCodecForm,
		"\x80\x80\x80\x80\x80\x80\x80\x80\x80\x80":     api.ErrCodecForm,
		"\x80\x80\x80\x80\x80\x80\x80\x80\x80\x80\x01": api.ErrCodecForm,
		"\x80\x80\x80\x80\x80\x80\x80\x80\x80\x00":     api.ErrCodecForm,
		"\x80\x80\x80\x80\x80\x80\x80\x80\x80\x7f":     api.ErrCodecForm,
		"\x80\x80\x80\x80\x80\x80\x80\x80\x80":         api.ErrCodecShort,
	}
	for b, want := range wrong {
		if n, k, e := codec.TakeNumber([]byte(b)); n != 0 || k != 0 || e != want {
			t.Errorf("TakeNumber(%q): %d %d %d", b, n, k, e)
		}
	}
}

// P1.2
func TestText(t *testing.T) {
	long := make([]byte, api.MaxFrame+1)
	if b, e := codec.Text(long); b != nil || e != api.ErrCodecLong {
		t.Errorf("too long: %d %d", len(b), e)
	}
	b, e := codec.Text(long[1:])
	if e != api.OK || len(b) != api.MaxFrame+4 {
		t.Fatalf("the longest: %d %d", len(b), e)
	}
	if s, n, e := codec.TakeText(b); len(s) != api.MaxFrame || n != len(b) || e != api.OK {
		t.Errorf("the longest: %d %d %d", len(s), n, e)
	}
	if s, n, e := codec.TakeText(b[:len(b)-1]); s != nil || n != 0 || e != api.ErrCodecShort {
		t.Errorf("torn: %d %d %d", len(s), n, e)
	}
	for b, want := range map[string]api.Errno{"": api.ErrCodecShort, "\x80\x00": api.ErrCodecForm, "\x81\x80\x80\x01": api.ErrCodecLong, "\x02a": api.ErrCodecShort, "\x80\x80\x80\x01": api.ErrCodecShort} {
		if s, n, e := codec.TakeText([]byte(b)); s != nil || n != 0 || e != want {
			t.Errorf("TakeText(%q): %q %d %d", b, s, n, e)
		}
	}
	in := []byte("\x02abc")
	s, n, e := codec.TakeText(in)
	if string(s) != "ab" || n != 3 || e != api.OK {
		t.Errorf("TakeText: %q %d %d", s, n, e)
	}
	in[1] = 'z'
	if string(s) != "ab" {
		t.Error("the text shares memory")
	}
}

// P1.3
func TestSum(t *testing.T) {
	if codec.Sum([]byte("123456789")) != 0xCBF43926 || codec.Sum(nil) != 0 {
		t.Error("Sum")
	}
	r := rand.New(rand.NewSource(1))
	for range 200 {
		b := make([]byte, r.Intn(100))
		r.Read(b)
		if codec.Sum(b) != crc32.ChecksumIEEE(b) {
			t.Errorf("Sum of %v", b)
		}
	}
}

// P1.4, P1.9
func TestFrame(t *testing.T) {
	f, e := codec.Frame(66, []byte("ab"))
	s := codec.Sum([]byte{66, 2, 97, 98})
	want := []byte{66, 2, byte(s), byte(s >> 8), byte(s >> 16), byte(s >> 24), 97, 98}
	if e != api.OK || !bytes.Equal(f, want) {
		t.Fatalf("Frame: %v %d", f, e)
	}
	if k, b, n, e := codec.TakeFrame(append(f, 1, 2)); k != 66 || string(b) != "ab" || n != 8 || e != api.OK {
		t.Errorf("TakeFrame: %d %q %d %d", k, b, n, e)
	}
	for i := range f {
		if k, b, n, e := codec.TakeFrame(f[:i]); k != 0 || b != nil || n != 0 || e != api.ErrCodecShort {
			t.Errorf("a prefix of %d bytes: %d %d %d %d", i, k, b, n, e)
		}
	}
	for i := 2; i < len(f); i++ {
		for d := 1; d < 256; d++ {
			g := bytes.Clone(f)
			g[i] += byte(d)
			if _, _, _, e := codec.TakeFrame(g); e != api.ErrCodecSum {
				t.Fatalf("byte %d changed by %d: %d", i, d, e)
			}
		}
	}
	long := make([]byte, api.MaxFrame+1)
	if b, e := codec.Frame(1, long); b != nil || e != api.ErrCodecLong {
		t.Errorf("too long: %d", e)
	}
	b, e := codec.Frame(1, long[1:])
	if len(b) != api.MaxFrame+9 || e != api.OK {
		t.Errorf("the longest: %d %d", len(b), e)
	}
	if k, body, n, e := codec.TakeFrame(b); k != 1 || len(body) != api.MaxFrame || n != len(b) || e != api.OK {
		t.Errorf("the longest: %d %d %d", len(body), n, e)
	}
	for b, want := range map[string]api.Errno{"": api.ErrCodecShort, "\x01": api.ErrCodecShort, "\x01\x80\x00": api.ErrCodecForm, "\x01\x81\x80\x80\x01": api.ErrCodecLong, "\x01\x00\x00\x00\x00": api.ErrCodecShort, "\x01\x00\x00\x00\x00\x00": api.ErrCodecSum} {
		if k, body, n, e := codec.TakeFrame([]byte(b)); k != 0 || body != nil || n != 0 || e != want {
			t.Errorf("TakeFrame(%q): %d", b, e)
		}
	}
}

// P1.5
func TestKeyForms(t *testing.T) {
	ints := map[int64]string{-1: "\x7f\xff\xff\xff\xff\xff\xff\xff", 0: "\x80\x00\x00\x00\x00\x00\x00\x00", math.MinInt64: "\x00\x00\x00\x00\x00\x00\x00\x00", 258: "\x80\x00\x00\x00\x00\x00\x01\x02"}
	for n, want := range ints {
		if b := codec.KeyInt(n); string(b) != want {
			t.Errorf("KeyInt(%d): %v", n, b)
		}
		if m, k, e := codec.TakeKeyInt([]byte(want + "x")); m != n || k != 8 || e != api.OK {
			t.Errorf("TakeKeyInt(%d): %d %d %d", n, m, k, e)
		}
		if m, k, e := codec.TakeKeyInt([]byte(want)); m != n || k != 8 || e != api.OK {
			t.Errorf("TakeKeyInt(%d), nothing behind it: %d %d %d", n, m, k, e)
		}
		for i := range 8 {
			if m, k, e := codec.TakeKeyInt([]byte(want[:i])); m != 0 || k != 0 || e != api.ErrCodecShort {
				t.Errorf("short: %d %d %d", m, k, e)
			}
		}
	}
	for s, want := range map[string]string{"": "\x00\x01", "a\x00b": "a\x00\xffb\x00\x01", "\x00": "\x00\xff\x00\x01", "\x01\xff": "\x01\xff\x00\x01"} {
		if b := codec.KeyText([]byte(s)); string(b) != want {
			t.Errorf("KeyText(%q): %v", s, b)
		}
		if x, k, e := codec.TakeKeyText([]byte(want + "\x00\x01")); string(x) != s || k != len(want) || e != api.OK {
			t.Errorf("TakeKeyText(%q): %q %d %d", want, x, k, e)
		}
		for i := range len(want) {
			if x, k, e := codec.TakeKeyText([]byte(want[:i])); x != nil || k != 0 || e != api.ErrCodecShort {
				t.Errorf("short %q: %q %d %d", want[:i], x, k, e)
			}
		}
	}
	for b, want := range map[string]api.Errno{"a\x00\x02": api.ErrCodecForm, "a\x00\x00": api.ErrCodecForm, "a\x00\xfe\x00\x01": api.ErrCodecForm, "a\x00": api.ErrCodecShort, "a": api.ErrCodecShort, "": api.ErrCodecShort} {
		if x, k, e := codec.TakeKeyText([]byte(b)); x != nil || k != 0 || e != want {
			t.Errorf("TakeKeyText(%q): %d", b, e)
		}
	}
}

// P1.6
func TestCompare(t *testing.T) {
	l := []string{"", "\x00", "\x00\x00", "\x01", "a", "ab", "b", "\x7f", "\x80", "\xff", "\xff\x00"}
	for i, a := range l {
		for j, b := range l {
			want := bytes.Compare([]byte(a), []byte(b))
			if got := codec.Compare([]byte(a), []byte(b)); got != want {
				t.Errorf("Compare(%d, %d): %d", i, j, got)
			}
		}
	}
}

func text(r *rand.Rand) []byte {
	b := make([]byte, r.Intn(5))
	for i := range b {
		b[i] = []byte{0, 1, 2, 254, 255}[r.Intn(5)]
	}
	return b
}

// P1.7
func TestRoundTrip(t *testing.T) {
	r := rand.New(rand.NewSource(7))
	for range 2000 {
		n := r.Uint64() >> r.Intn(64)
		b := codec.Number(n)
		if m, k, e := codec.TakeNumber(append(b, text(r)...)); m != n || k != len(b) || e != api.OK {
			t.Fatalf("%d: %d %d %d", n, m, k, e)
		}
		s := text(r)
		f, _ := codec.Frame(byte(n), s)
		k, body, m, e := codec.TakeFrame(append(f, text(r)...))
		if k != byte(n) || !bytes.Equal(body, s) || m != len(f) || e != api.OK {
			t.Fatalf("frame of %v", s)
		}
		kt := codec.KeyText(s)
		if x, m, e := codec.TakeKeyText(append(kt, text(r)...)); !bytes.Equal(x, s) || m != len(kt) || e != api.OK {
			t.Fatalf("key of %v", s)
		}
	}
}

// P1.8
func TestOrder(t *testing.T) {
	r := rand.New(rand.NewSource(8))
	for range 5000 {
		a, b := text(r), text(r)
		want := bytes.Compare(a, b)
		x, y := codec.KeyText(a), codec.KeyText(b)
		if codec.Compare(x, y) != want {
			t.Fatalf("%v, %v", a, b)
		}
		if want != 0 && codec.Compare(append(x, text(r)...), append(y, text(r)...)) != want {
			t.Fatalf("%v, %v with more behind", a, b)
		}
		n, m := int64(r.Uint64())>>r.Intn(64), int64(r.Uint64())>>r.Intn(64)
		want = 0
		if n < m {
			want = -1
		} else if n > m {
			want = 1
		}
		if codec.Compare(codec.KeyInt(n), codec.KeyInt(m)) != want {
			t.Fatalf("%d, %d", n, m)
		}
	}
}
