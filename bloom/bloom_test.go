package bloom_test

import (
	"bytes"
	"fmt"
	"hash/fnv"
	"math/rand"
	"testing"

	"cormorant/api"
	"cormorant/bloom"
)

// P3.1
func TestHash(t *testing.T) {
	if bloom.Hash(nil) != 14695981039346656037 || bloom.Hash([]byte("a")) != 12638187200555641996 {
		t.Error("Hash")
	}
	for i := range 100 {
		b := []byte(fmt.Sprint("key ", i, "\xff\x00"))
		h := fnv.New64a()
		h.Write(b)
		if bloom.Hash(b) != h.Sum64() {
			t.Errorf("Hash of %q", b)
		}
	}
}

// step is a hash with its lowest 33 bits as the highest ones, the other 31 behind them, and the lowest bit set.
func step(h uint64) uint64 {
	lowest := h % (1 << 33)
	others := h / (1 << 33)
	return (lowest*(1<<31) + others) | 1
}

func TestStep(t *testing.T) {
	for h, want := range map[uint64]uint64{0: 1, 1: 1<<31 + 1, 1 << 32: 1<<63 + 1, 1 << 33: 1, 1 << 34: 3, 1 << 63: 1<<30 + 1, 14695981039346656037: 4760605603728543347} {
		if s := step(h); s != want {
			t.Errorf("of %x: %x, want %x", h, s, want)
		}
	}
}

func model(keys [][]byte, p int) []byte {
	words := 1
	for words*64 < len(keys)*p {
		words++
	}
	k := p * 69 / 100
	if k < 1 {
		k = 1
	}
	f := make([]byte, 1+8*words)
	f[0] = byte(k)
	for _, key := range keys {
		h := bloom.Hash(key)
		s := step(h)
		for i := range k {
			j := (h + uint64(i)*s) % uint64(words*64)
			f[1+j/8] |= 1 << (j % 8)
		}
	}
	return f
}

func some(n int) [][]byte {
	l := make([][]byte, n)
	for i := range l {
		l[i] = []byte(fmt.Sprint("key", i*i))
	}
	return l
}

// P3.2
func TestMake(t *testing.T) {
	if f, e := bloom.Make(nil, 10); e != api.OK || !bytes.Equal(f, []byte{6, 0, 0, 0, 0, 0, 0, 0, 0}) {
		t.Errorf("of no keys: %v %d", f, e)
	}
	for _, p := range []int{-1, 0, 31, 1 << 40} {
		if f, e := bloom.Make(nil, p); f != nil || e != api.ErrArg {
			t.Errorf("perKey %d: %d", p, e)
		}
	}
	if f, e := bloom.Make(make([][]byte, api.MaxTabled+1), 10); f != nil || e != api.ErrArg {
		t.Errorf("too many: %d", e)
	}
	if f, e := bloom.Make(make([][]byte, api.MaxTabled), 30); len(f) != 1+api.MaxTabled*30/8 || e != api.OK {
		t.Errorf("as many as may be: %d %d", len(f), e)
	}
	for n := range 70 {
		for _, p := range []int{1, 2, 3, 9, 10, 29, 30} {
			f, e := bloom.Make(some(n), p)
			if e != api.OK || !bytes.Equal(f, model(some(n), p)) {
				t.Errorf("%d keys, %d bits: %v %d", n, p, f, e)
			}
		}
	}
}

// P3.2, P3.3: filters written out, which hold the way a hash is turned.
func TestFilterBytes(t *testing.T) {
	cases := []struct {
		keys   string // with blanks between
		perKey int
		want   []byte
	}{
		{"", 1, []byte{1, 0, 0, 0, 0, 32, 0, 0, 0}},
		{"", 3, []byte{2, 0, 0, 0, 1, 32, 0, 0, 0}},
		{"", 10, []byte{6, 0, 8, 0, 1, 48, 0, 2, 64}},
		{"", 30, []byte{20, 0, 15, 224, 1, 60, 192, 3, 120}},
		{"k", 30, []byte{20, 36, 37, 9, 73, 66, 146, 146, 132}},
		{"ab", 3, []byte{2, 0, 0, 0, 0, 0, 36, 0, 0}},
		{"a b", 10, []byte{6, 2, 144, 0, 4, 32, 1, 8, 0}},
		{"a b c d e f g", 10, []byte{6, 11, 208, 0, 30, 224, 1, 104, 0, 7, 240, 0, 22, 128, 3, 60, 0}},
	}
	for _, c := range cases {
		keys := bytes.Split([]byte(c.keys), []byte(" "))
		if f, e := bloom.Make(keys, c.perKey); e != api.OK || !bytes.Equal(f, c.want) {
			t.Errorf("of %q, %d bits: %v %d, want %v", c.keys, c.perKey, f, e, c.want)
		}
		for _, key := range keys {
			if !bloom.May(c.want, key) {
				t.Errorf("%v lacks %q", c.want, key)
			}
		}
		if bloom.May(c.want, []byte("other")) {
			t.Errorf("%v has a key that is not there", c.want)
		}
	}
}

// P3.3
func TestMay(t *testing.T) {
	key := []byte("k")
	valid := make([]byte, 17)
	valid[0] = 6
	if bloom.May(valid, key) || bloom.May(valid[:9], key) {
		t.Error("an empty filter")
	}
	for _, f := range [][]byte{nil, {6}, make([]byte, 9), make([]byte, 8), append([]byte{31}, make([]byte, 8)...), append([]byte{6}, make([]byte, 9)...), append([]byte{6}, make([]byte, 7)...), append([]byte{255}, make([]byte, 16)...)} {
		if !bloom.May(f, key) {
			t.Errorf("%v is not valid", f)
		}
	}
	thirty := append([]byte{30}, make([]byte, 8)...)
	if bloom.May(thirty, key) {
		t.Error("30 probes are valid")
	}
	if bloom.May(append([]byte{1}, make([]byte, 8)...), key) {
		t.Error("one probe is valid")
	}
	f, _ := bloom.Make([][]byte{key}, 10)
	for i := 8; i < 72; i++ {
		if f[i/8]>>(i%8)&1 == 1 {
			f[i/8] ^= 1 << (i % 8)
			if bloom.May(f, key) {
				t.Errorf("without bit %d", i-8)
			}
			f[i/8] ^= 1 << (i % 8)
		}
	}
	g, _ := bloom.Make(some(500), 10)
	wrong := 0
	for i := range 1000 {
		if bloom.May(g, []byte(fmt.Sprint("other", i))) {
			wrong++
		}
	}
	if wrong > 60 {
		t.Errorf("%d of 1000", wrong)
	}
}

// P3.4
func TestNoFalseNegatives(t *testing.T) {
	r := rand.New(rand.NewSource(4))
	for range 50 {
		keys := some(r.Intn(200))
		f, _ := bloom.Make(keys, 1+r.Intn(30))
		for range 2 {
			for _, key := range keys {
				if !bloom.May(f, key) {
					t.Fatalf("%q is missed", key)
				}
			}
			for i := range f[1:] {
				f[1+i] |= byte(r.Intn(256))
			}
		}
	}
}

// P3.5
func TestOrderOfKeys(t *testing.T) {
	keys := some(40)
	f, _ := bloom.Make(keys, 10)
	rand.New(rand.NewSource(5)).Shuffle(len(keys), func(i, j int) { keys[i], keys[j] = keys[j], keys[i] })
	if g, _ := bloom.Make(keys, 10); !bytes.Equal(f, g) {
		t.Error("the order changes the filter")
	}
	one, _ := bloom.Make([][]byte{[]byte("a"), []byte("a")}, 30)
	two, _ := bloom.Make([][]byte{[]byte("a")}, 30)
	if !bytes.Equal(one, two) {
		t.Error("a key that occurs twice")
	}
	three, _ := bloom.Make([][]byte{[]byte("a"), []byte("a"), []byte("a")}, 30)
	if len(three) != 17 {
		t.Errorf("it counts thrice: %d", len(three))
	}
}
