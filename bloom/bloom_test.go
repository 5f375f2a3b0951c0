package bloom_test

import (
	"bytes"
	"fmt"
	"hash/fnv"
	"math/bits"
	"math/rand"
	"testing"

	"cormorant/api"
	"cormorant/bloom"
)

// P3.1
func TestHash(t *testing.T) {
	if bloom.Hash(nil) != 14695981039346656037 || bloom.Hash([]byte("a")) != 12638187200555641996 {
		t.Error("Hash")
	}
	for i := range 100 {
		b := []byte(fmt.Sprint("key ", i, "\xff\x00"))
		h := fnv.New64a()
		h.Write(b)
		if bloom.Hash(b) != h.Sum64() {
			t.Errorf("Hash of %q", b)
		}
	}
}

func model(keys [][]byte, p int) []byte {
	words := 1
	for words*64 < len(keys)*p {
		words++
	}
	k := p * 69 / 100
	if k < 1 {
		k = 1
	}
	f := make([]byte, 1+8*words)
	f[0] = byte(k)
	for _, key := range keys {
		h := bloom.Hash(key)
		s := bits.RotateLeft64(h, 33) | 1
		for i := range k {
			j := (h + uint64(i)*s) % uint64(words*64)
			f[1+j/8] |= 1 << (j % 8)
		}
	}
	return f
}

func some(n int) [][]byte {
	l := make([][]byte, n)
	for i := range l {
		l[i] = []byte(fmt.Sprint("key", i*i))
	}
	return l
}

// P3.2
func TestMake(t *testing.T) {
	if f, e := bloom.Make(nil, 10); e != api.OK || !bytes.Equal(f, []byte{6, 0, 0, 0, 0, 0, 0, 0, 0}) {
		t.Errorf("of no keys: %v %d", f, e)
	}
	for _, p := range []int{-1, 0, 31, 1 << 40} {
		if f, e := bloom.Make(nil, p); f != nil || e != api.ErrArg {
			t.Errorf("perKey %d: %d", p, e)
		}
	}
	if f, e := bloom.Make(make([][]byte, api.MaxTabled+1), 10); f != nil || e != api.ErrArg {
		t.Errorf("too many: %d", e)
	}
	if f, e := bloom.Make(make([][]byte, api.MaxTabled), 30); len(f) != 1+api.MaxTabled*30/8 || e != api.OK {
		t.Errorf("as many as may be: %d %d", len(f), e)
	}
	for n := range 70 {
		for _, p := range []int{1, 2, 3, 9, 10, 29, 30} {
			f, e := bloom.Make(some(n), p)
			if e != api.OK || !bytes.Equal(f, model(some(n), p)) {
				t.Errorf("%d keys, %d bits: %v %d", n, p, f, e)
			}
		}
	}
}

// P3.3
func TestMay(t *testing.T) {
	key := []byte("k")
	valid := make([]byte, 17)
	valid[0] = 6
	if bloom.May(valid, key) || bloom.May(valid[:9], key) {
		t.Error("an empty filter")
	}
	for _, f := range [][]byte{nil, {6}, make([]byte, 9), make([]byte, 8), append([]byte{31}, make([]byte, 8)...), append([]byte{6}, make([]byte, 9)...), append([]byte{6}, make([]byte, 7)...), append([]byte{255}, make([]byte, 16)...)} {
		if !bloom.May(f, key) {
			t.Errorf("%v is not valid", f)
		}
	}
	thirty := append([]byte{30}, make([]byte, 8)...)
	if bloom.May(thirty, key) {
		t.Error("30 probes are valid")
	}
	if bloom.May(append([]byte{1}, make([]byte, 8)...), key) {
		t.Error("one probe is valid")
	}
	f, _ := bloom.Make([][]byte{key}, 10)
	for i := 8; i < 72; i++ {
		if f[i/8]>>(i%8)&1 == 1 {
			f[i/8] ^= 1 << (i % 8)
			if bloom.May(f, key) {
				t.Errorf("without bit %d", i-8)
			}
			f[i/8] ^= 1 << (i % 8)
		}
	}
	g, _ := bloom.Make(some(500), 10)
	wrong := 0
	for i := range 1000 {
		if bloom.May(g, []byte(fmt.Sprint("other", i))) {
			wrong++
		}
	}
	if wrong > 60 {
		t.Errorf("%d of 1000", wrong)
	}
}

// P3.4
func TestNoFalseNegatives(t *testing.T) {
	r := rand.New(rand.NewSource(4))
	for range 50 {
		keys := some(r.Intn(200))
		f, _ := bloom.Make(keys, 1+r.Intn(30))
		for range 2 {
			for _, key := range keys {
				if !bloom.May(f, key) {
					t.Fatalf("%q is missed", key)
				}
			}
			for i := range f[1:] {
				f[1+i] |= byte(r.Intn(256))
			}
		}
	}
}

// P3.5
func TestOrderOfKeys(t *testing.T) {
	keys := some(40)
	f, _ := bloom.Make(keys, 10)
	rand.New(rand.NewSource(5)).Shuffle(len(keys), func(i, j int) { keys[i], keys[j] = keys[j], keys[i] })
	if g, _ := bloom.Make(keys, 10); !bytes.Equal(f, g) {
		t.Error("the order changes the filter")
	}
	one, _ := bloom.Make([][]byte{[]byte("a"), []byte("a")}, 30)
	two, _ := bloom.Make([][]byte{[]byte("a")}, 30)
	if !bytes.Equal(one, two) {
		t.Error("a key that occurs twice")
	}
	three, _ := bloom.Make([][]byte{[]byte("a"), []byte("a"), []byte("a")}, 30)
	if len(three) != 17 {
		t.Errorf("it counts thrice: %d", len(three))
	}
}
