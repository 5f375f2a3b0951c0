package rangemeta_test

import (
	"bytes"
	"fmt"
	"math/rand"
	"slices"
	"strings"
	"testing"

	"cormorant/api"
	"cormorant/rangemeta"
)

func span(from, to string) api.Span { return api.Span{From: []byte(from), To: []byte(to)} }

func ranged(id int, from, to string, gen int) api.Range {
	return api.Range{Id: id, Span: span(from, to), Gen: gen}
}

func show(l []api.Range) string {
	var s []string
	for _, r := range l {
		s = append(s, fmt.Sprintf("%d[%s,%s)%d", r.Id, r.Span.From, r.Span.To, r.Gen))
	}
	return strings.Join(s, " ")
}

func showParts(l []api.Part) string {
	var s []string
	for _, p := range l {
		s = append(s, show([]api.Range{p.Range})+fmt.Sprintf(":[%s,%s)", p.Span.From, p.Span.To))
	}
	return strings.Join(s, " ")
}

func showSpans(l []api.Span) string {
	var s []string
	for _, p := range l {
		s = append(s, fmt.Sprintf("[%s,%s)", p.From, p.To))
	}
	return strings.Join(s, " ")
}

func is(t *testing.T, what string, got, want any) {
	t.Helper()
	if got != want {
		t.Errorf("%s: %v, want %v", what, got, want)
	}
}

// P15.1
func TestBytes(t *testing.T) {
	b, e := rangemeta.Bytes([]api.Range{ranged(1, "", "m", 300), ranged(255, "m", "", 1)})
	is(t, "Bytes", string(b), "\x02\x01\xac\x02\x00\x01m\xff\x01\x01\x01m\x00")
	is(t, "Bytes", e, api.OK)
	l, e := rangemeta.Read(b)
	is(t, "Read", show(l), "1[,m)300 255[m,)1")
	is(t, "Read", e, api.OK)
	for i := range b {
		if l, e := rangemeta.Read(b[:i]); l != nil || e != api.ErrRangeForm {
			t.Errorf("%d bytes: %d", i, e)
		}
	}
	if _, e := rangemeta.Read(append(b, 0)); e != api.ErrRangeForm {
		t.Errorf("a byte more: %d", e)
	}
	long := strings.Repeat("k", 111)
	for i, r := range []api.Range{ranged(0, "", "", 1), ranged(256, "", "", 1), ranged(1, "", "", 0), ranged(1, "", "", api.MaxWall+1), ranged(1, long, "", 1), ranged(1, "", long, 1), ranged(1, "b", "b", 1), ranged(1, "b", "a", 1)} {
		if b, e := rangemeta.Bytes([]api.Range{r}); b != nil || e != api.ErrRangeForm {
			t.Errorf("%d: %d", i, e)
		}
		if rangemeta.Fresh().Learn(r) {
			t.Errorf("%d is learned", i)
		}
	}
	many := slices.Repeat([]api.Range{ranged(1, long[1:], "", api.MaxWall)}, 256)
	if _, e := rangemeta.Bytes(many); e != api.ErrRangeForm {
		t.Errorf("256 ranges: %d", e)
	}
	b, _ = rangemeta.Bytes(many[1:])
	if l, e := rangemeta.Read(b); len(l) != 255 || e != api.OK {
		t.Errorf("255 ranges: %d", e)
	}
	b, e = rangemeta.Bytes(nil)
	is(t, "none", string(b)+fmt.Sprint(e), "\x000")
	r := rand.New(rand.NewSource(151))
	b, _ = rangemeta.Bytes([]api.Range{ranged(1, "ab", "m", 300), ranged(200, "m", "nop", 1)})
	for range 5000 {
		c := slices.Clone(b)
		c[r.Intn(len(c))] = byte(r.Intn(256))
		if l, e := rangemeta.Read(c); e == api.OK {
			if again, _ := rangemeta.Bytes(l); !bytes.Equal(again, c) {
				t.Fatalf("%q", c)
			}
		}
	}
}

// P15.2
func TestLoad(t *testing.T) {
	x := rangemeta.New()
	is(t, "New", show(x.List()), "1[,)1")
	is(t, "Find", show([]api.Range{x.Find(nil)}), "1[,)1")
	for i, l := range [][]api.Range{nil, {ranged(1, "a", "", 1)}, {ranged(1, "", "m", 1)}, {ranged(1, "", "m", 1), ranged(1, "m", "", 1)}, {ranged(1, "", "m", 1), ranged(2, "n", "", 1)}, {ranged(1, "", "", 1), ranged(2, "", "", 1)}, {ranged(1, "", "", 0)}, {ranged(1, "", "m", 1), ranged(2, "m", "c", 1), ranged(3, "c", "", 1)}} {
		if x, e := rangemeta.Load(l); x != nil || e != api.ErrRangeForm {
			t.Errorf("%d: %d", i, e)
		}
	}
	var l []api.Range
	for i := range 33 {
		r := ranged(i+1, fmt.Sprintf("k%02d", i), fmt.Sprintf("k%02d", i+1), 1)
		if i == 0 {
			r.Span.From = nil
		}
		l = append(l, r)
	}
	last := func(n int) []api.Range {
		c := slices.Clone(l[:n])
		c[n-1].Span.To = nil
		return c
	}
	if _, e := rangemeta.Load(last(33)); e != api.ErrRangeForm {
		t.Errorf("33 ranges: %d", e)
	}
	in := last(32)
	x, e := rangemeta.Load(in)
	is(t, "32 ranges", e, api.OK)
	in[1].Span.From[0] = 'z'
	x.List()[1].Span.From[0] = 'z'
	is(t, "Find", x.Find([]byte("k01")).Id, 2)
	is(t, "Find", x.Find([]byte("k01\xff")).Id, 2)
	is(t, "Find", x.Find([]byte("k00\xff")).Id, 1)
	is(t, "Find", x.Find([]byte(strings.Repeat("z", 999))).Id, 32)
	is(t, "Split", x.Split(1, []byte("a"), 99), api.ErrRangeFull)
	is(t, "Split", x.Split(1, []byte("z"), 99), api.ErrRangeForm)
}

// P15.3, P15.4, the first example
func TestSplitAndCut(t *testing.T) {
	x := rangemeta.New()
	key := []byte("m")
	is(t, "Split", x.Split(1, key, 2), api.OK)
	key[0] = 'q'
	is(t, "List", show(x.List()), "1[,m)2 2[m,)2")
	is(t, "Cut", showParts(x.Cut(span("a", "z"))), "1[,m)2:[a,m) 2[m,)2:[m,z)")
	for _, c := range []struct {
		id    int
		key   string
		other int
		want  api.Errno
	}{{3, "m", 3, api.ErrRangeNone}, {0, "", 0, api.ErrRangeNone}, {1, "m", 3, api.ErrRangeForm}, {1, "", 3, api.ErrRangeForm}, {2, "m", 3, api.ErrRangeForm}, {2, "a", 3, api.ErrRangeForm}, {2, "x", 0, api.ErrRangeForm}, {2, "x", 256, api.ErrRangeForm}, {2, "x", 1, api.ErrRangeForm}, {2, "x", 2, api.ErrRangeForm}, {2, strings.Repeat("x", 111), 3, api.ErrRangeForm}, {2, "x", 3, api.OK}} {
		is(t, "Split", x.Split(c.id, []byte(c.key), c.other), c.want)
	}
	is(t, "List", show(x.List()), "1[,m)2 2[m,x)3 3[x,)3")
	for p, want := range map[[2]string]string{{"", ""}: "1[,m)2:[,m) 2[m,x)3:[m,x) 3[x,)3:[x,)", {"m", "x"}: "2[m,x)3:[m,x)", {"l", "m"}: "1[,m)2:[l,m)", {"x", ""}: "3[x,)3:[x,)", {"b", "b"}: "", {"b", "a"}: "", {"z", "zz"}: "3[x,)3:[z,zz)", {"n", "y"}: "2[m,x)3:[n,x) 3[x,)3:[x,y)"} {
		is(t, "Cut", showParts(x.Cut(span(p[0], p[1]))), want)
	}
	z := rangemeta.New()
	is(t, "Split", z.Split(1, []byte("m"), 255), api.OK)
	is(t, "Split", z.Split(255, []byte(strings.Repeat("x", 110)), 254), api.OK)
	parts := x.Cut(span("", ""))
	parts[1].Span.From[0], parts[1].Range.Span.To[0] = 'q', 'q'
	is(t, "Cut", showParts(x.Cut(span("m", "x"))), "2[m,x)3:[m,x)")
	is(t, "its range", string(parts[1].Range.Span.From), "m")
	y, _ := rangemeta.Load([]api.Range{ranged(1, "", "", api.MaxWall)})
	is(t, "Split", y.Split(1, []byte("m"), 2), api.ErrRangeFull)
}

// P15.5, P15.6, the second example
func TestCache(t *testing.T) {
	c := rangemeta.Fresh()
	if _, ok := c.Find([]byte("z")); ok || len(c.Known()) != 0 {
		t.Error("Fresh")
	}
	is(t, "Learn", c.Learn(ranged(1, "", "", 1)), true)
	is(t, "Learn", c.Learn(ranged(1, "", "", 1)), true)
	r, ok := c.Find([]byte("z"))
	is(t, "Find", fmt.Sprint(r.Id, ok), "1 true")
	is(t, "Learn", c.Learn(ranged(2, "m", "", 2)), true)
	if r, ok = c.Find([]byte("a")); ok || r.Id != 0 {
		t.Error("Find")
	}
	is(t, "Learn", c.Learn(ranged(1, "", "", 1)), false)
	parts, rest := c.Cut(span("a", "z"))
	is(t, "Cut", showParts(parts)+" and "+showSpans(rest), "2[m,)2:[m,z) and [a,m)")
	is(t, "the same Gen", c.Learn(ranged(2, "n", "", 2)), false)
	is(t, "the same Gen, overlapping", c.Learn(ranged(3, "a", "n", 2)), false)
	is(t, "apart", c.Learn(ranged(3, "a", "c", 1)), true)
	is(t, "apart", c.Learn(ranged(4, "e", "m", 1)), true)
	is(t, "Known", show(c.Known()), "3[a,c)1 4[e,m)1 2[m,)2")
	for p, want := range map[[2]string]string{
		{"", ""}: "3[a,c)1:[a,c) 4[e,m)1:[e,m) 2[m,)2:[m,) and [,a) [c,e)", {"b", "f"}: "3[a,c)1:[b,c) 4[e,m)1:[e,f) and [c,e)", {"c", "e"}: " and [c,e)", {"d", "dd"}: " and [d,dd)",
		{"e", "z"}: "4[e,m)1:[e,m) 2[m,)2:[m,z) and ", {"f", "e"}: " and ", {"", "b"}: "3[a,c)1:[a,b) and [,a)", {"b", "d"}: "3[a,c)1:[b,c) and [c,d)"} {
		parts, rest := c.Cut(span(p[0], p[1]))
		is(t, fmt.Sprint(p), showParts(parts)+" and "+showSpans(rest), want)
	}
	is(t, "by its Id", c.Learn(ranged(3, "z", "zz", 3)), true)
	is(t, "Known", show(c.Known()), "4[e,m)1 3[z,zz)3")
	is(t, "Forget", c.Forget(4), true)
	is(t, "Forget", c.Forget(4), false)
	is(t, "Known", show(c.Known()), "3[z,zz)3")
	in := ranged(5, "a", "b", 1)
	c.Learn(in)
	in.Span.From[0] = 'q'
	c.Known()[0].Span.From[0] = 'q'
	is(t, "Known", show(c.Known()), "5[a,b)1 3[z,zz)3")
	_, rest = c.Cut(span("", ""))
	is(t, "Cut", showSpans(rest), "[,a) [b,z) [zz,)")
}

// P15.7
func TestTheorem(t *testing.T) {
	r := rand.New(rand.NewSource(157))
	key := func() []byte { return []byte(fmt.Sprintf("%c%c", 'a'+r.Intn(6), 'a'+r.Intn(6)))[:r.Intn(3)] }
	for range 200 {
		x := rangemeta.New()
		ever := x.List()
		c := rangemeta.Fresh()
		newest := map[int]int{}
		for range 40 {
			l := x.List()
			old := l[r.Intn(len(l))]
			x.Split(old.Id, key(), 1+r.Intn(40))
			ever = append(ever, x.List()...)
			learned := ever[r.Intn(len(ever))]
			if c.Learn(learned) {
				newest[learned.Id] = max(newest[learned.Id], learned.Gen)
			}
			known := c.Known()
			for i, k := range known {
				if k.Gen < newest[k.Id] {
					t.Fatal("a newer one was replaced")
				}
				if i > 0 && (len(known[i-1].Span.To) == 0 || bytes.Compare(known[i-1].Span.To, k.Span.From) > 0) {
					t.Fatalf("they overlap: %s", show(known))
				}
			}
			k := key()
			count := 0
			for _, one := range x.List() {
				if bytes.Compare(one.Span.From, k) <= 0 && (len(one.Span.To) == 0 || bytes.Compare(k, one.Span.To) < 0) {
					count++
				}
			}
			if count != 1 {
				t.Fatalf("%q is in %d ranges", k, count)
			}
			p := api.Span{From: key(), To: key()}
			if empty := len(p.To) > 0 && bytes.Compare(p.To, p.From) <= 0; !empty {
				parts := x.Cut(p)
				at := p.From
				for _, part := range parts {
					if !bytes.Equal(part.Span.From, at) {
						t.Fatalf("Cut: %s", showParts(parts))
					}
					at = part.Span.To
				}
				if !bytes.Equal(at, p.To) {
					t.Fatalf("Cut: %s", showParts(parts))
				}
			} else if len(x.Cut(p)) != 0 {
				t.Fatal("Cut of an empty span")
			}
		}
		if again, e := rangemeta.Load(x.List()); e != api.OK || show(again.List()) != show(x.List()) {
			t.Fatalf("Load: %d", e)
		}
		all := x.List()
		r.Shuffle(len(all), func(i, j int) { all[i], all[j] = all[j], all[i] })
		for _, one := range all {
			c.Learn(one)
		}
		for range 20 {
			k := key()
			if got, ok := c.Find(k); !ok || show([]api.Range{got}) != show([]api.Range{x.Find(k)}) {
				t.Fatalf("%q: %v, %v", k, got, x.Find(k))
			}
		}
	}
}
