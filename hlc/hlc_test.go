package hlc_test

import (
	"bytes"
	"math"
	"math/rand"
	"testing"

	"cormorant/api"
	"cormorant/hlc"
)

func at(wall, logic int) api.Stamp { return api.Stamp{Wall: wall, Logic: logic} }

var end = at(api.MaxWall, api.MaxLogic)

var wrong = []api.Stamp{at(-1, 0), at(0, -1), at(api.MaxWall+1, 0), at(0, api.MaxLogic+1), at(math.MinInt, 5), at(5, math.MaxInt)}

// P8.1
func TestRightAndCompare(t *testing.T) {
	for _, s := range wrong {
		if hlc.Right(s) {
			t.Errorf("%v is right", s)
		}
	}
	l := []api.Stamp{at(math.MinInt, 9), at(-1, 70000), at(0, -5), {}, at(0, 1), at(0, api.MaxLogic), at(1, 0), at(1, 2), end, at(math.MaxInt, 0)}
	for i, a := range l {
		if i > 2 && i < 9 && !hlc.Right(a) {
			t.Errorf("%v is not right", a)
		}
		for j, b := range l {
			want := 0
			if i < j {
				want = -1
			} else if i > j {
				want = 1
			}
			if got := hlc.Compare(a, b); got != want {
				t.Errorf("%v, %v: %d", a, b, got)
			}
		}
	}
}

// P8.2
func TestNextAndPrev(t *testing.T) {
	for _, c := range []struct{ low, high api.Stamp }{{at(0, 0), at(0, 1)}, {at(3, 65535), at(4, 0)}, {at(3, 7), at(3, 8)}, {at(api.MaxWall, 65534), end}, {at(api.MaxWall-1, 65535), at(api.MaxWall, 0)}} {
		if s, e := hlc.Next(c.low); s != c.high || e != api.OK {
			t.Errorf("Next(%v): %v %d", c.low, s, e)
		}
		if s, e := hlc.Prev(c.high); s != c.low || e != api.OK {
			t.Errorf("Prev(%v): %v %d", c.high, s, e)
		}
	}
	if s, e := hlc.Next(end); s != at(0, 0) || e != api.ErrClockEnd {
		t.Errorf("Next of the end: %v %d", s, e)
	}
	if s, e := hlc.Prev(at(0, 0)); s != at(0, 0) || e != api.ErrClockEnd {
		t.Errorf("Prev of 0: %v %d", s, e)
	}
	for _, s := range wrong {
		if x, e := hlc.Next(s); x != at(0, 0) || e != api.ErrClockForm {
			t.Errorf("Next(%v): %d", s, e)
		}
		if x, e := hlc.Prev(s); x != at(0, 0) || e != api.ErrClockForm {
			t.Errorf("Prev(%v): %d", s, e)
		}
	}
}

// P8.3
func TestBytes(t *testing.T) {
	for s, want := range map[api.Stamp]string{at(1, 2): "\x00\x00\x00\x00\x00\x00\x01\x00\x02", end: "\x1f\xff\xff\xff\xff\xff\xff\xff\xff", at(0x1234567, 0x89ab): "\x00\x00\x00\x01\x23\x45\x67\x89\xab"} {
		b, e := hlc.Bytes(s)
		if string(b) != want || e != api.OK {
			t.Errorf("%v: %v %d", s, b, e)
		}
		if x, e := hlc.Read(b); x != s || e != api.OK {
			t.Errorf("Read(%v): %v %d", b, x, e)
		}
		if _, e := hlc.Read(append(b, 0)); e != api.ErrClockForm {
			t.Errorf("a byte more: %d", e)
		}
		if _, e := hlc.Read(b[:8]); e != api.ErrClockForm {
			t.Errorf("a byte less: %d", e)
		}
	}
	for _, s := range wrong {
		if b, e := hlc.Bytes(s); b != nil || e != api.ErrClockForm {
			t.Errorf("Bytes(%v): %d", s, e)
		}
	}
	for _, b := range []string{"", "\x20\x00\x00\x00\x00\x00\x00\x00\x00", "\xff\xff\xff\xff\xff\xff\xff\xff\xff"} {
		if s, e := hlc.Read([]byte(b)); s != at(0, 0) || e != api.ErrClockForm {
			t.Errorf("Read(%q): %d", b, e)
		}
	}
}

// P8.4, P8.5, P8.6, P8.7
func TestClock(t *testing.T) {
	for _, n := range []int{-1, api.MaxWall + 1} {
		if c, e := hlc.New(n); c != nil || e != api.ErrArg {
			t.Errorf("New(%d): %d", n, e)
		}
	}
	hlc.New(0)
	c, e := hlc.New(10)
	if e != api.OK || c.Last() != at(0, 0) {
		t.Fatal("New")
	}
	now := func(wall int, want api.Stamp, code api.Errno) {
		t.Helper()
		before := c.Last()
		if s, e := c.Now(wall); s != want || e != code {
			t.Errorf("Now(%d): %v %d", wall, s, e)
		}
		if code == api.OK {
			before = want
		}
		if c.Last() != before {
			t.Errorf("Last: %v", c.Last())
		}
	}
	learn := func(s api.Stamp, wall int, code api.Errno, last api.Stamp) {
		t.Helper()
		if e := c.Learn(s, wall); e != code || c.Last() != last {
			t.Errorf("Learn(%v, %d): %d, %v", s, wall, e, c.Last())
		}
	}
	now(5, at(5, 0), api.OK)
	now(5, at(5, 1), api.OK)
	now(3, at(5, 2), api.OK)
	learn(at(16, 7), 5, api.ErrClockAhead, at(5, 2))
	learn(at(15, 7), 5, api.OK, at(15, 7))
	learn(at(15, 6), 5, api.OK, at(15, 7))
	learn(at(15, 7), -1, api.ErrArg, at(15, 7))
	learn(at(-1, 7), api.MaxWall+1, api.ErrArg, at(15, 7))
	learn(at(-1, 7), 5, api.ErrClockForm, at(15, 7))
	learn(at(99, 70000), 5, api.ErrClockForm, at(15, 7))
	now(5, at(15, 8), api.OK)
	now(16, at(16, 0), api.OK)
	now(-1, at(0, 0), api.ErrArg)
	now(api.MaxWall+1, at(0, 0), api.ErrArg)
	learn(end, api.MaxWall-10, api.OK, end)
	now(7, at(0, 0), api.ErrClockEnd)
	now(api.MaxWall, at(0, 0), api.ErrClockEnd)
	for _, p := range []struct {
		s    api.Stamp
		wall int
		want bool
	}{{at(15, 8), 25, false}, {at(15, 8), 26, true}, {at(15, 8), api.MaxWall + 1, false}, {at(15, 70000), 99, false}, {at(-1, 0), 99, false}, {at(0, 0), -1, false}, {at(0, 0), 11, true}, {at(0, 0), 10, false}} {
		if got := c.Passed(p.s, p.wall); got != p.want {
			t.Errorf("Passed(%v, %d): %v", p.s, p.wall, got)
		}
	}
	z, _ := hlc.New(0)
	if s, e := z.Now(0); s != at(0, 1) || e != api.OK {
		t.Errorf("Now(0): %v", s)
	}
}

// P8.8
func TestTheorem(t *testing.T) {
	r := rand.New(rand.NewSource(8))
	pick := func() api.Stamp {
		s := at(r.Intn(5), r.Intn(3))
		if r.Intn(3) == 0 {
			s.Logic = api.MaxLogic - s.Logic
		}
		if r.Intn(5) == 0 {
			s.Wall = api.MaxWall - s.Wall
		}
		return s
	}
	for range 3000 {
		a, b := pick(), pick()
		x, _ := hlc.Bytes(a)
		y, _ := hlc.Bytes(b)
		if bytes.Compare(x, y) != hlc.Compare(a, b) {
			t.Fatalf("%v, %v", a, b)
		}
		if n, e := hlc.Next(a); e == api.OK {
			if p, _ := hlc.Prev(n); p != a || hlc.Compare(a, n) != -1 {
				t.Fatalf("Next(%v): %v", a, n)
			}
		}
	}
	for range 200 {
		offset := r.Intn(6)
		c, _ := hlc.New(offset)
		var last api.Stamp
		for range 50 {
			wall := r.Intn(40)
			s := at(r.Intn(45), r.Intn(4))
			if r.Intn(2) == 0 {
				if e := c.Learn(s, wall); e == api.OK && hlc.Compare(s, last) > 0 {
					last = s
				} else if e == api.ErrClockAhead && s.Wall <= wall+offset {
					t.Fatal("ErrClockAhead")
				}
				continue
			}
			if c.Passed(s, wall) {
				other, _ := hlc.New(offset)
				if n, _ := other.Now(wall - offset); hlc.Compare(n, s) <= 0 {
					t.Fatalf("%v has passed at %d, and %v comes", s, wall, n)
				}
			}
			n, e := c.Now(wall)
			if e != api.OK || hlc.Compare(n, last) <= 0 || hlc.Compare(n, at(wall, 0)) < 0 || c.Last() != n {
				t.Fatalf("Now(%d): %v behind %v", wall, n, last)
			}
			last = n
		}
	}
}
