package disk

import (
	"bytes"
	"errors"
	"math"
	"math/rand"
	"testing"

	"pergola/api"
)

// isFault tells whether e is a Fault of these that is the error want.
func isFault(e error, op string, id int, want api.Errno) bool {
	var f *api.Fault
	return errors.As(e, &f) && f.Op == op && f.ID == id && errors.Is(e, want)
}

// sector is 64 bytes c.
func sector(c byte) []byte { return bytes.Repeat([]byte{c}, api.Sector) }

// fresh is a disk of n sectors.
func fresh(t *testing.T, n int) *Disk {
	t.Helper()
	d, e := New(n)
	if e != nil || d == nil {
		t.Fatal(e)
	}
	return d
}

// write writes sectors of bytes c; it must be done.
func write(t *testing.T, d *Disk, at int, c byte) {
	t.Helper()
	if e := d.Write(at, sector(c)); e != nil {
		t.Fatal(e)
	}
}

// tells is the first byte of the first and of the second half of each sector.
func tells(t *testing.T, d *Disk) string {
	t.Helper()
	s := []byte{}
	for at := range d.Len() {
		b, e := d.Read(at)
		if e != nil || len(b) != api.Sector || !bytes.Equal(b[:half], bytes.Repeat(b[:1], half)) || !bytes.Equal(b[half:], bytes.Repeat(b[half:half+1], half)) {
			t.Fatalf("Read(%d) = %x, %v", at, b, e)
		}
		s = append(s, b[0], b[half])
	}
	return string(bytes.ReplaceAll(s, []byte{0}, []byte{'.'}))
}

func TestP10_1New(t *testing.T) {
	for _, n := range []int{0, -1, api.MaxSector + 1, math.MaxInt, math.MinInt} {
		if d, e := New(n); d != nil || !isFault(e, "new", n, api.ErrArg) {
			t.Errorf("New(%d): %v", n, e)
		}
	}
	for _, n := range []int{1, 2, api.MaxSector} {
		d := fresh(t, n)
		if d.Len() != n || d.Ops() != 0 || d.Off() {
			t.Errorf("New(%d) has %d sectors, %d ops, %v", n, d.Len(), d.Ops(), d.Off())
		}
		for _, at := range []int{0, n - 1} {
			if b, e := d.Read(at); e != nil || !bytes.Equal(b, sector(0)) {
				t.Errorf("Read(%d): %x, %v", at, b, e)
			}
		}
		for _, at := range []int{-1, n, math.MaxInt, math.MinInt} {
			if b, e := d.Read(at); b != nil || !isFault(e, "read", at, api.ErrRange) {
				t.Errorf("Read(%d): %x, %v", at, b, e)
			}
		}
	}
}

func TestP10_2OpsAndCut(t *testing.T) {
	d := fresh(t, 4)
	write(t, d, 0, 'a')
	if e := d.Write(9, sector(1)); !isFault(e, "write", 9, api.ErrRange) {
		t.Error(e)
	}
	if e := d.Write(9, nil); !isFault(e, "write", 9, api.ErrRange) {
		t.Error("ErrRange goes ahead: ", e)
	}
	for _, n := range []int{0, 63, 65} {
		if e := d.Write(1, make([]byte, n)); !isFault(e, "write", 1, api.ErrArg) {
			t.Error(e)
		}
	}
	if d.Sync() != nil || d.Ops() != 2 {
		t.Errorf("%d ops", d.Ops())
	}
	d.Cut(0)
	d.Cut(2)
	write(t, d, 1, 'b')
	d.Write(9, nil)
	d.Write(0, nil)
	write(t, d, 2, 'c')
	if d.Off() {
		t.Error("the power is off from the op behind on")
	}
	if e := d.Write(3, sector('d')); !isFault(e, "write", 3, api.ErrOff) || !d.Off() || d.Ops() != 5 {
		t.Errorf("%v, %v, %d ops", e, d.Off(), d.Ops())
	}
	d.Cut(5)
	if e := d.Sync(); !isFault(e, "sync", 0, api.ErrOff) || !d.Off() || d.Ops() != 6 {
		t.Errorf("once off it stays off: %v", e)
	}
	if e := d.Write(-1, sector(0)); !isFault(e, "write", -1, api.ErrRange) {
		t.Error(e)
	}
	if e := d.Write(0, sector(0)[1:]); !isFault(e, "write", 0, api.ErrArg) || d.Ops() != 6 {
		t.Error(e)
	}
	if got := tells(t, d); got != "aabbcc.." {
		t.Errorf("it tells %s", got)
	}
	if got := tells(t, d.Crash(nil, -1)); got != "aa......" {
		t.Errorf("for good is %s", got)
	}
	for _, n := range []int{0, -3, math.MinInt} {
		d := fresh(t, 1)
		d.Cut(n)
		if d.Off() {
			t.Error("not yet")
		}
		if e := d.Sync(); !errors.Is(e, api.ErrOff) || !d.Off() {
			t.Errorf("Cut(%d): %v", n, e)
		}
	}
}

func TestP10_3Write(t *testing.T) {
	d := fresh(t, 2)
	b := sector('x')
	if e := d.Write(0, b); e != nil {
		t.Fatal(e)
	}
	b[0] = 'y'
	got, _ := d.Read(0)
	got[1] = 'z'
	if tells(t, d) != "xx.." || tells(t, d.Crash([]bool{true}, -1)) != "xx.." || tells(t, d.Crash(nil, -1)) != "...." {
		t.Error("what waits is read, and is not for good")
	}
	if d.Sync() != nil || tells(t, d.Crash(nil, -1)) != "xx.." {
		t.Error("Sync makes it last")
	}
	write(t, d, 0, 'v')
	if tells(t, d) != "vv.." || tells(t, d.Crash(nil, 7)) != "xx.." {
		t.Error("what was synced stays")
	}
}

func TestP10_4Crash(t *testing.T) {
	d := fresh(t, 5)
	write(t, d, 4, 'o')
	d.Sync()
	write(t, d, 3, 'a')
	write(t, d, 0, 'b')
	write(t, d, 4, 'c')
	write(t, d, 3, 'd') // its place stays the first
	cases := []struct {
		keep []bool
		torn int
		want string
	}{
		{nil, -1, "........oo"},
		{[]bool{}, 3, "........oo"},
		{[]bool{true}, -1, "bb....ddcc"},
		{[]bool{false}, -1, "........oo"},
		{[]bool{true, false}, -1, "......ddcc"},
		{[]bool{false, true}, math.MaxInt, "bb......oo"},
		{[]bool{false, false, true, true, true}, math.MinInt, "........cc"},
		{nil, 0, "......d.oo"},
		{nil, 2, "........co"},
		{[]bool{true}, 1, "b.....ddcc"},
		{[]bool{true, false}, 2, "......ddco"},
	}
	for _, c := range cases {
		got := d.Crash(c.keep, c.torn)
		if tells(t, got) != c.want || got.Ops() != 0 || got.Off() {
			t.Errorf("Crash(%v, %d): %s, not %s", c.keep, c.torn, tells(t, got), c.want)
		}
		if again := got.Crash([]bool{true}, 0); tells(t, again) != c.want {
			t.Errorf("nothing waits behind Crash(%v, %d)", c.keep, c.torn)
		}
	}
	if tells(t, d) != "bb....ddcc" {
		t.Error("Crash changes nothing")
	}
	d.Cut(0)
	d.Sync()
	if c := d.Crash(nil, -1); c.Off() || c.Sync() != nil || !d.Off() {
		t.Error("the new disk is not cut")
	}
}

func TestP10_4Copy(t *testing.T) {
	d := fresh(t, 2)
	write(t, d, 0, 'a')
	d.Sync()
	write(t, d, 1, 'b')
	d.Cut(2)
	c := d.Copy()
	if tells(t, c) != "aabb" || c.Ops() != 3-0 || c.Off() || tells(t, c.Crash(nil, -1)) != "aa.." {
		t.Errorf("Copy tells %s, %d ops", tells(t, c), c.Ops())
	}
	write(t, c, 0, 'c')
	write(t, c, 1, 'd')
	if e := c.Sync(); !errors.Is(e, api.ErrOff) || !c.Off() || !c.Copy().Off() {
		t.Error("Copy is cut likewise")
	}
	if tells(t, d) != "aabb" || d.Ops() != 3 || d.Off() || d.Sync() != nil || tells(t, c.Crash([]bool{true}, -1)) != "ccdd" {
		t.Error("Copy is a disk of its own")
	}
}

func TestP10_5NilAndZero(t *testing.T) {
	for _, d := range []*Disk{nil, {}} {
		d.Cut(1)
		if b, e := d.Read(0); b != nil || !isFault(e, "read", 0, api.ErrRange) {
			t.Error(e)
		}
		if e := d.Write(0, sector(1)); !isFault(e, "write", 0, api.ErrRange) {
			t.Error(e)
		}
		if e := d.Sync(); !isFault(e, "sync", 0, api.ErrOff) {
			t.Error(e)
		}
		if d.Len() != 0 || !d.Off() || d.Ops() != 0 || d.Crash([]bool{true}, 0) != nil || d.Copy() != nil {
			t.Error("a nil or zero Disk has nothing")
		}
	}
}

// By chance, against its words.
func TestP10_6WhatWasSyncedStays(t *testing.T) {
	r := rand.New(rand.NewSource(10))
	d := fresh(t, 6)
	good, now := make([]byte, 6), make([]byte, 6)
	for i := range 3000 {
		if r.Intn(8) == 0 {
			d.Sync()
			copy(good, now)
		} else {
			at, c := r.Intn(6), byte('a'+r.Intn(26))
			write(t, d, at, c)
			now[at] = c
		}
		if d.Ops() != i+1 {
			t.Fatal("each counts one")
		}
		for keep, want := range map[bool][]byte{true: now, false: good} {
			c := d.Crash([]bool{keep}, -1)
			for at := range want {
				if b, _ := c.Read(at); b[0] != want[at] {
					t.Fatalf("sector %d behind op %d", at, i)
				}
			}
		}
	}
}
