package vdisk_test

import (
	"bytes"
	"fmt"
	"math/rand"
	"reflect"
	"slices"
	"strings"
	"testing"

	"cormorant/api"
	"cormorant/vdisk"
)

func disk(t *testing.T, size int) *vdisk.Disk {
	d, e := vdisk.New(size)
	if e != api.OK || d == nil {
		t.Fatalf("New(%d): %d", size, e)
	}
	return d
}

func want(t *testing.T, what string, got, want any) {
	t.Helper()
	if !reflect.DeepEqual(got, want) {
		t.Errorf("%s: %v, want %v", what, got, want)
	}
}

func read(t *testing.T, d *vdisk.Disk, name, s string) {
	t.Helper()
	b, e := d.Read(name)
	if string(b) != s || e != api.OK {
		t.Errorf("%s: %q %d, want %q", name, b, e, s)
	}
	n, ok := d.Len(name)
	if n != len(s) || !ok {
		t.Errorf("Len of %s: %d %v", name, n, ok)
	}
}

// P2.1
func TestNew(t *testing.T) {
	for _, n := range []int{-1, 0, api.MaxDisk + 1} {
		if d, e := vdisk.New(n); d != nil || e != api.ErrArg {
			t.Errorf("New(%d): %d", n, e)
		}
	}
	d := disk(t, api.MaxDisk)
	want(t, "List", len(d.List()), 0)
	want(t, "Count", d.Count(), 0)
	disk(t, 1)
}

// P2.2
func TestOff(t *testing.T) {
	d := disk(t, 100)
	d.Append("a", []byte("xy"))
	d.Arm(1, -1)
	want(t, "the last one", d.Sync("a"), api.ErrDiskOff)
	want(t, "Off", d.Off(), true)
	want(t, "Append", d.Append("A", nil), api.ErrDiskOff)
	want(t, "Sync", d.Sync("b"), api.ErrDiskOff)
	want(t, "Rename", d.Rename("b", "c"), api.ErrDiskOff)
	want(t, "Delete", d.Delete("b"), api.ErrDiskOff)
	want(t, "Arm", d.Arm(-1, 0), api.ErrDiskOff)
	b, e := d.Read("a")
	want(t, "Read", len(b), 0)
	want(t, "Read", e, api.ErrDiskOff)
	n, ok := d.Len("a")
	want(t, "Len", n, 0)
	want(t, "Len", ok, false)
	want(t, "List", len(d.List()), 0)
	want(t, "Used", d.Used(), 0)
	want(t, "Pending", d.Pending(), []api.Wait{{Name: "a", Lasts: 0, Bytes: 2}})
	want(t, "Count", d.Count(), 1)
}

// P2.3, P2.4, P2.10
func TestChanges(t *testing.T) {
	d := disk(t, 10)
	in := []byte("xyz")
	want(t, "Append", d.Append("a", in), api.OK)
	in[0] = 'q'
	read(t, d, "a", "xyz")
	out, _ := d.Read("a")
	out[0] = 'q'
	read(t, d, "a", "xyz")
	want(t, "an empty one", d.Append("b", nil), api.OK)
	read(t, d, "b", "")
	want(t, "List", d.List(), []string{"a", "b"})
	for _, name := range []string{"", "A", "a_", "a b", "ä", strings.Repeat("a", 33)} {
		want(t, name, d.Append(name, make([]byte, 99)), api.ErrDiskName)
		want(t, name, d.Rename("a", name), api.ErrDiskName)
		want(t, name, d.Rename("none", name), api.ErrDiskNone)
	}
	want(t, "full", d.Append("a", make([]byte, 8)), api.ErrDiskFull)
	want(t, "Count", d.Count(), 2)
	want(t, "just full", d.Append("az09-.", make([]byte, 7)), api.OK)
	want(t, "Used", d.Used(), 10)
	want(t, "Sync", d.Sync("none"), api.ErrDiskNone)
	want(t, "Delete", d.Delete("none"), api.ErrDiskNone)
	want(t, "Delete", d.Delete("az09-."), api.OK)
	b, e := d.Read("az09-.")
	want(t, "Read", len(b), 0)
	want(t, "Read", e, api.ErrDiskNone)
	want(t, "same", d.Rename("a", "a"), api.OK)
	read(t, d, "a", "xyz")
	want(t, "Append", d.Append("b", []byte("uv")), api.OK)
	want(t, "over", d.Rename("b", "a"), api.OK)
	read(t, d, "a", "uv")
	want(t, "Used", d.Used(), 2)
	want(t, "Count", d.Count(), 7)
	want(t, "a name of 32", d.Append(strings.Repeat("z", 32), nil), api.OK)
}

func TestMany(t *testing.T) {
	d := disk(t, 10)
	for i := range api.MaxFiles {
		want(t, "Append", d.Append(fmt.Sprintf("f%d", i), nil), api.OK)
	}
	want(t, "one more", d.Append("g", make([]byte, 11)), api.ErrDiskMany)
	want(t, "an old one", d.Append("f7", []byte("x")), api.OK)
	want(t, "full", d.Append("f7", make([]byte, 10)), api.ErrDiskFull)
}

// P2.5
func TestArm(t *testing.T) {
	d := disk(t, 100)
	want(t, "Arm", d.Arm(-1, 0), api.ErrArg)
	d.Append("a", []byte("x"))
	want(t, "Arm", d.Arm(1, 2), api.OK)
	want(t, "a rejected one", d.Sync("none"), api.ErrDiskNone)
	want(t, "torn", d.Append("a", []byte("yzw")), api.ErrDiskOff)
	want(t, "Off", d.Off(), true)
	want(t, "Count", d.Count(), 2)
	d.Restart([]int{9})
	read(t, d, "a", "xyz")
	d.Arm(1, 9)
	want(t, "torn", d.Append("c", []byte("u")), api.ErrDiskOff)
	d.Restart([]int{1})
	read(t, d, "c", "u")
	d.Arm(1, 0)
	d.Arm(0, 0)
	want(t, "not armed", d.Delete("c"), api.OK)
	d.Arm(2, -1)
	d.Restart(nil)
	want(t, "not armed", d.Append("b", []byte("y")), api.OK)
	want(t, "not armed", d.Append("b", []byte("y")), api.OK)
	d.Arm(1, 0)
	want(t, "Sync", d.Sync("b"), api.ErrDiskOff)
	d.Restart(nil)
	read(t, d, "b", "yy")
	d.Arm(1, -1)
	want(t, "Delete", d.Delete("b"), api.ErrDiskOff)
	d.Restart(nil)
	read(t, d, "b", "yy")
	d.Arm(1, 5)
	want(t, "Rename", d.Rename("b", "e"), api.ErrDiskOff)
	d.Restart(nil)
	read(t, d, "e", "yy")
	d.Arm(1, 0)
	want(t, "Append of none", d.Append("new", []byte("abc")), api.ErrDiskOff)
	d.Restart([]int{7})
	read(t, d, "new", "")
}

// P2.6, P2.7
func TestRestart(t *testing.T) {
	d := disk(t, 100)
	d.Append("a", []byte("xyz"))
	d.Sync("a")
	d.Append("a", []byte("uv"))
	want(t, "Pending", d.Pending(), []api.Wait{{Name: "a", Lasts: 3, Bytes: 5}})
	d.Restart([]int{1})
	read(t, d, "a", "xyzu")
	want(t, "Pending", len(d.Pending()), 0)
	d.Restart(nil)
	read(t, d, "a", "xyzu")
	e := disk(t, 100)
	e.Append("a", []byte("x"))
	e.Arm(2, -1)
	want(t, "Append", e.Append("b", []byte("y")), api.OK)
	want(t, "Rename", e.Rename("b", "a"), api.ErrDiskOff)
	e.Restart([]int{0, 1})
	want(t, "Off", e.Off(), false)
	read(t, e, "a", "")
	read(t, e, "b", "y")
	e.Append("c", []byte("pq"))
	e.Append("d", []byte("rs"))
	e.Append("e", []byte("tu"))
	e.Restart([]int{-5, 9})
	read(t, e, "c", "")
	read(t, e, "d", "rs")
	read(t, e, "e", "")
	e.Append("c", []byte("1"))
	e.Append("x", []byte("2"))
	e.Sync("c")
	e.Rename("c", "y")
	want(t, "Pending", e.Pending(), []api.Wait{{Name: "x", Lasts: 0, Bytes: 1}})
}

// P2.8
func TestCopy(t *testing.T) {
	d := disk(t, 100)
	d.Append("a", []byte("x"))
	d.Sync("a")
	d.Append("a", []byte("y"))
	d.Arm(2, 0)
	c := d.Copy()
	want(t, "Count", c.Count(), 3)
	want(t, "Pending", c.Pending(), d.Pending())
	want(t, "Append", c.Append("a", []byte("z")), api.OK)
	want(t, "Append", c.Append("a", []byte("z")), api.ErrDiskOff)
	read(t, d, "a", "xy")
	want(t, "Append", d.Append("a", []byte("w")), api.OK)
	want(t, "Off", c.Copy().Off(), true)
	want(t, "Append", d.Delete("a"), api.ErrDiskOff)
	c.Restart([]int{9})
	read(t, c, "a", "xyz")
	want(t, "the size", c.Append("a", make([]byte, 98)), api.ErrDiskFull)
}

// P2.9
func TestSurvives(t *testing.T) {
	r := rand.New(rand.NewSource(3))
	names := []string{"a", "b", "c"}
	for range 300 {
		d := disk(t, 60)
		for range 30 {
			name := names[r.Intn(3)]
			switch r.Intn(6) {
			case 0, 1, 2:
				d.Append(name, bytes.Repeat([]byte{byte('a' + r.Intn(26))}, r.Intn(5)))
			case 3:
				d.Sync(name)
			case 4:
				d.Rename(name, names[r.Intn(3)])
			case 5:
				if r.Intn(5) == 0 {
					d.Delete(name)
				}
			}
		}
		l := d.List()
		before := map[string][]byte{}
		lasts := map[string]int{}
		for _, name := range l {
			before[name], _ = d.Read(name)
			lasts[name] = len(before[name])
		}
		p := d.Pending()
		keeps := make([]int, len(p))
		for k, w := range p {
			lasts[w.Name] = w.Lasts
			keeps[k] = r.Intn(5)
			before[w.Name] = before[w.Name][:min(w.Bytes, w.Lasts+keeps[k])]
		}
		d.Restart(keeps)
		if !slices.Equal(d.List(), l) {
			t.Fatalf("List: %v, %v", d.List(), l)
		}
		for _, name := range l {
			b, _ := d.Read(name)
			if !bytes.Equal(b, before[name]) || len(b) < lasts[name] {
				t.Fatalf("%s: %q, %q", name, b, before[name])
			}
		}
		if len(d.Pending()) != 0 {
			t.Fatal("Pending")
		}
	}
}
