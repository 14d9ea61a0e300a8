package pool

import (
	"bytes"
	"errors"
	"math"
	"math/rand"
	"slices"
	"testing"

	"pergola/api"
	"pergola/disk"
	"pergola/slots"
)

// isFault tells whether e is a pool's Fault at a page that is the error want.
func isFault(e error, page int, want api.Errno) bool {
	var f *api.Fault
	return errors.As(e, &f) && f.Op == "pool" && f.ID == page && errors.Is(e, want)
}

func fresh(t *testing.T, sectors, pages, room int) (*disk.Disk, *Pool) {
	t.Helper()
	d, e := disk.New(sectors)
	if e != nil {
		t.Fatal(e)
	}
	p, e := New(d, pages, room)
	if e != nil {
		t.Fatal(e)
	}
	return d, p
}

func pin(t *testing.T, p *Pool, page int) *slots.Page {
	t.Helper()
	s, e := p.Pin(page)
	if e != nil || s.ID() != page {
		t.Fatalf("Pin(%d): %v", page, e)
	}
	return s
}

func unpin(t *testing.T, p *Pool, page int, dirty bool, lsn int) {
	t.Helper()
	if e := p.Unpin(page, dirty, lsn); e != nil {
		t.Fatal(e)
	}
}

// state holds what a pool tells against what it should.
func state(t *testing.T, p *Pool, held, dirty []int, stats [3]int) {
	t.Helper()
	hits, reads, writes := p.Stats()
	if got := [3]int{hits, reads, writes}; got != stats || !slices.Equal(p.Held(), held) || !slices.Equal(p.Dirty(), dirty) {
		t.Fatalf("held %v, dirty %v, stats %v; not %v, %v, %v", p.Held(), p.Dirty(), got, held, dirty, stats)
	}
}

// put puts text into a page's slot 0.
func put(t *testing.T, s *slots.Page, text string) {
	t.Helper()
	if s.Set(0, []byte(text)) != nil {
		if _, e := s.Insert([]byte(text)); e != nil {
			t.Fatal(e)
		}
	}
}

func text(s *slots.Page) string {
	b, _ := s.Get(0)
	return string(b)
}

func TestP12_1New(t *testing.T) {
	d, _ := disk.New(32)
	for _, v := range [][2]int{{1, 1}, {4, 100}, {2, 50}} {
		p, e := New(d, v[0], v[1])
		if e != nil {
			t.Fatal(e)
		}
		state(t, p, nil, nil, [3]int{})
	}
	for _, v := range [][2]int{{0, 1}, {-1, 1}, {5, 1}, {math.MaxInt, 1}, {math.MinInt, 1}, {1, 0}, {1, 101}, {1, -1}} {
		if p, e := New(d, v[0], v[1]); p != nil || !isFault(e, 0, api.ErrArg) {
			t.Errorf("New(%d, %d): %v", v[0], v[1], e)
		}
	}
	odd, _ := disk.New(15)
	for _, d := range []*disk.Disk{nil, {}} {
		if p, e := New(d, 1, 1); p != nil || !isFault(e, 0, api.ErrArg) {
			t.Errorf("New of none: %v", e)
		}
	}
	if _, e := New(odd, 2, 1); !isFault(e, 0, api.ErrArg) {
		t.Error("8 pages are more than 15 sectors")
	}
	if d.Ops() != 0 {
		t.Error("New does nothing to the disk")
	}
}

func TestP12_2PinAndDrop(t *testing.T) {
	d, p := fresh(t, 32, 4, 2)
	for _, page := range []int{-1, 4, math.MaxInt, math.MinInt} {
		if s, e := p.Pin(page); s != nil || !isFault(e, page, api.ErrRange) {
			t.Errorf("Pin(%d): %v", page, e)
		}
	}
	s := pin(t, p, 3)
	if s.Kind() != 0 || len(s.Slots()) != 0 {
		t.Error("noughts are an empty page")
	}
	put(t, s, "three")
	if again := pin(t, p, 3); again != s || text(again) != "three" {
		t.Error("the page that is told is the one that is held")
	}
	pin(t, p, 0)
	state(t, p, []int{0, 3}, nil, [3]int{1, 2, 0})
	if s, e := p.Pin(1); s != nil || !isFault(e, 1, api.ErrFull) {
		t.Error(e)
	}
	unpin(t, p, 3, true, 5)
	if _, e := p.Pin(1); !isFault(e, 1, api.ErrFull) {
		t.Error("it is pinned once more: ", e)
	}
	unpin(t, p, 3, false, 9)
	if _, e := p.Pin(1); !isFault(e, 1, api.ErrFull) {
		t.Error("its log is not for good: ", e)
	}
	p.Log(4)
	if _, e := p.Pin(1); !isFault(e, 1, api.ErrFull) {
		t.Error(e)
	}
	state(t, p, []int{0, 3}, []int{3}, [3]int{1, 2, 0})
	p.Log(5)
	p.Log(2) // not greater
	pin(t, p, 1)
	state(t, p, []int{0, 1}, nil, [3]int{1, 3, 1})
	if d.Ops() != 9 {
		t.Errorf("eight sectors and a Sync: %d", d.Ops())
	}
	laid := []byte{}
	for at := 24; at < 32; at++ {
		b, _ := d.Crash(nil, -1).Read(at)
		laid = append(laid, b...)
	}
	if !bytes.Equal(laid, s.Bytes()) {
		t.Error("it is written as it was done to, for good")
	}
	unpin(t, p, 0, false, 0)
	if got := pin(t, p, 3); text(got) != "three" || got == s {
		t.Error("what is read is what was done last")
	}
	state(t, p, []int{1, 3}, nil, [3]int{1, 4, 1})
}

func TestP12_2TheOldestGoes(t *testing.T) {
	_, p := fresh(t, 80, 10, 3)
	for page := range 3 {
		pin(t, p, page)
	}
	for page := range 3 {
		unpin(t, p, 2-page, false, 0)
	}
	pin(t, p, 0) // a hit makes it the newest
	unpin(t, p, 0, false, 0)
	pin(t, p, 5)
	state(t, p, []int{0, 2, 5}, nil, [3]int{1, 4, 0})
	pin(t, p, 6)
	state(t, p, []int{0, 5, 6}, nil, [3]int{1, 5, 0})
	unpin(t, p, 6, true, 1) // must stay
	pin(t, p, 7)
	state(t, p, []int{5, 6, 7}, []int{6}, [3]int{1, 6, 0})
}

func TestP12_2BadPages(t *testing.T) {
	d, p := fresh(t, 32, 4, 1)
	other, _ := slots.New(9, 2)
	for at := range 8 {
		b := other.Bytes()[at*64 : at*64+64]
		d.Write(8+at, b)
		d.Write(16+at, b)
	}
	junk := bytes.Repeat([]byte{1}, 64)
	d.Write(25, junk)
	pin(t, p, 0)
	unpin(t, p, 0, false, 0)
	if s, e := p.Pin(1); s != nil || !isFault(e, 1, api.ErrBad) {
		t.Error("another ID: ", e)
	}
	state(t, p, nil, nil, [3]int{0, 2, 0})
	if s, e := p.Pin(3); s != nil || !isFault(e, 3, api.ErrBad) {
		t.Error("no page: ", e)
	}
	if e := p.Unpin(3, false, 0); !isFault(e, 3, api.ErrPin) {
		t.Error("it is not held then: ", e)
	}
	if pin(t, p, 2).Kind() != 9 {
		t.Error("its own ID")
	}
	state(t, p, []int{2}, nil, [3]int{0, 4, 0})
}

func TestP12_3UnpinAndFlush(t *testing.T) {
	d, p := fresh(t, 80, 10, 5)
	for _, page := range []int{-1, 0, 10, math.MaxInt} {
		if e := p.Unpin(page, true, 0); !isFault(e, page, api.ErrPin) {
			t.Errorf("Unpin(%d): %v", page, e)
		}
	}
	if p.Flush() != nil || d.Ops() != 0 {
		t.Error("nothing is done, where there are none")
	}
	for _, page := range []int{4, 2, 3} {
		put(t, pin(t, p, page), "x")
		pin(t, p, page)
		unpin(t, p, page, true, page)
	}
	unpin(t, p, 2, true, 1) // 2 stays the greater one
	unpin(t, p, 3, true, -7)
	if e := p.Unpin(3, true, 0); !isFault(e, 3, api.ErrPin) {
		t.Error("it is not pinned: ", e)
	}
	p.Log(1)
	if p.Flush() != nil || d.Ops() != 0 {
		t.Error("no page is written ahead of its log")
	}
	p.Log(3)
	if p.Flush() != nil || d.Ops() != 17 {
		t.Errorf("%d ops", d.Ops())
	}
	state(t, p, []int{2, 3, 4}, []int{4}, [3]int{3, 3, 2})
	pin(t, p, 3)
	unpin(t, p, 3, true, 0) // its lsn is still 3
	p.Log(3)
	pin(t, p, 4) // pinned pages are written too
	p.Log(10)
	d.Cut(10)
	if e := p.Flush(); !isFault(e, 0, api.ErrOff) {
		t.Error(e)
	}
	state(t, p, []int{2, 3, 4}, []int{3, 4}, [3]int{5, 3, 2})
	var f *api.Fault
	if e := errors.Unwrap(p.Flush()); !errors.As(e, &f) || f.Op != "write" || f.ID != 24 {
		t.Errorf("it wraps the disk's: %v", e)
	}
}

func TestP12_3LsnSinceItIsHeld(t *testing.T) {
	_, p := fresh(t, 80, 10, 1)
	pin(t, p, 0)
	unpin(t, p, 0, true, 9)
	p.Log(9)
	p.Flush()
	pin(t, p, 0)
	unpin(t, p, 0, true, 2)
	p.Log(5)
	if p.Flush() != nil || len(p.Dirty()) != 0 {
		t.Error("the mark never falls")
	}
	pin(t, p, 1)
	unpin(t, p, 1, true, 12)
	if _, e := p.Pin(2); !isFault(e, 2, api.ErrFull) {
		t.Error(e)
	}
}

func TestP12_2ErrOffAndNothingHasGone(t *testing.T) {
	for cut := range 9 {
		d, p := fresh(t, 80, 10, 1)
		put(t, pin(t, p, 4), "four")
		unpin(t, p, 4, true, 0)
		d.Cut(cut)
		if s, e := p.Pin(5); s != nil || !isFault(e, 5, api.ErrOff) {
			t.Errorf("cut at %d: %v", cut, e)
		}
		state(t, p, []int{4}, []int{4}, [3]int{0, 1, 0})
		if text(pin(t, p, 4)) != "four" {
			t.Error("it is as it was")
		}
	}
}

func TestP12_4NilAndZero(t *testing.T) {
	for _, p := range []*Pool{nil, {}} {
		p.Log(3)
		if s, e := p.Pin(0); s != nil || !isFault(e, 0, api.ErrRange) || !isFault(p.Unpin(0, true, 1), 0, api.ErrPin) || p.Flush() != nil {
			t.Error(e)
		}
		state(t, p, nil, nil, [3]int{})
	}
}

// By chance: what is read is what was done last, and nothing is for good ahead of its log.
func TestP12_5ByChance(t *testing.T) {
	r := rand.New(rand.NewSource(12))
	d, p := fresh(t, 8*12, 12, 4)
	last, logged, mark := map[int]string{}, map[int]int{}, 0
	for i := range 4000 {
		page := r.Intn(12)
		s, e := p.Pin(page)
		if errors.Is(e, api.ErrFull) {
			mark = i
			p.Log(mark)
			continue
		}
		if e != nil || text(s) != last[page] {
			t.Fatalf("page %d tells %s, not %s: %v", page, text(s), last[page], e)
		}
		dirty := r.Intn(2) == 0
		if dirty {
			last[page] = string(rune('a' + i%26))
			put(t, s, last[page])
			logged[page] = i
		}
		unpin(t, p, page, dirty, i)
		if r.Intn(50) == 0 && p.Flush() != nil {
			t.Fatal("Flush")
		}
		for page, lsn := range logged {
			if lsn > mark && !slices.Contains(p.Dirty(), page) {
				t.Fatalf("page %d was written ahead of its log", page)
			}
		}
	}
	p.Log(5000)
	p.Flush()
	p, _ = New(d.Crash(nil, -1), 12, 12)
	for page := range 12 {
		if text(pin(t, p, page)) != last[page] {
			t.Errorf("page %d is not for good", page)
		}
	}
}
