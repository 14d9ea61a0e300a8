package slots

import (
	"bytes"
	"encoding/binary"
	"errors"
	"hash/crc32"
	"math"
	"math/rand"
	"slices"
	"testing"

	"pergola/api"
)

// isFault tells whether e is a page's Fault at a slot that is the error want.
func isFault(e error, slot int, want api.Errno) bool {
	var f *api.Fault
	return errors.As(e, &f) && f.Op == "page" && f.ID == slot && errors.Is(e, want)
}

func fresh(t *testing.T, kind, id int) *Page {
	t.Helper()
	p, e := New(kind, id)
	if e != nil {
		t.Fatal(e)
	}
	return p
}

// insert puts n bytes c in, and is the slot.
func insert(t *testing.T, p *Page, n int, c byte) int {
	t.Helper()
	slot, e := p.Insert(bytes.Repeat([]byte{c}, n))
	if e != nil {
		t.Fatal(e)
	}
	return slot
}

func TestP11_1New(t *testing.T) {
	for _, kind := range []int{0, 255} {
		for _, id := range []int{0, 7, 1<<32 - 1} {
			p := fresh(t, kind, id)
			if p.Kind() != kind || p.ID() != id || len(p.Slots()) != 0 || p.Free() != 496 {
				t.Errorf("New(%d, %d): %d, %d, %v, %d", kind, id, p.Kind(), p.ID(), p.Slots(), p.Free())
			}
		}
	}
	for _, v := range [][2]int{{-1, 0}, {256, 0}, {0, -1}, {0, 1 << 32}, {math.MaxInt, math.MinInt}} {
		if p, e := New(v[0], v[1]); p != nil || !isFault(e, 0, api.ErrArg) {
			t.Errorf("New(%d, %d): %v", v[0], v[1], e)
		}
	}
}

func TestP11_1InsertAndDelete(t *testing.T) {
	p := fresh(t, 1, 7)
	if insert(t, p, 1, 'a') != 0 || p.Free() != 491 {
		t.Errorf("the example: Free %d", p.Free())
	}
	if insert(t, p, 0, 0) != 1 || insert(t, p, 5, 'c') != 2 || insert(t, p, 2, 'd') != 3 || p.Free() != 512-16-16-8 {
		t.Errorf("%v, Free %d", p.Slots(), p.Free())
	}
	for _, n := range []int{-1, 4, 60, math.MaxInt, math.MinInt} {
		b, e := p.Get(n)
		if b != nil || !isFault(e, n, api.ErrNone) || !isFault(p.Delete(n), n, api.ErrNone) || !isFault(p.Set(n, make([]byte, 500)), n, api.ErrNone) {
			t.Errorf("slot %d is none: %v", n, e)
		}
	}
	if p.Delete(1) != nil || p.Free() != 512-16-16-8 || !isFault(p.Delete(1), 1, api.ErrNone) {
		t.Errorf("an empty slot between: Free %d", p.Free())
	}
	if p.Delete(3) != nil || p.Free() != 512-16-12-6 || !slices.Equal(p.Slots(), []int{0, 2}) {
		t.Errorf("the last one: Free %d, %v", p.Free(), p.Slots())
	}
	if insert(t, p, 3, 'e') != 1 || insert(t, p, 3, 'f') != 3 {
		t.Error("the least free slot")
	}
	if b, e := p.Get(2); e != nil || string(b) != "ccccc" {
		t.Errorf("Get(2) = %s, %v", b, e)
	}
	p.Delete(2)
	p.Delete(3)
	if p.Free() != 512-16-8-4 {
		t.Errorf("Used goes up to the last one that is not free: Free %d", p.Free())
	}
	p.Delete(1)
	p.Delete(0)
	if p.Free() != 496 || len(p.Slots()) != 0 {
		t.Errorf("all gone: Free %d", p.Free())
	}
}

func TestP11_1Limits(t *testing.T) {
	p := fresh(t, 1, 7)
	if _, e := p.Insert(make([]byte, 401)); !isFault(e, 0, api.ErrMany) {
		t.Error(e)
	}
	insert(t, p, 400, 'a') // Used 420
	if slot, e := p.Insert(make([]byte, 89)); slot != 0 || !isFault(e, 1, api.ErrFull) {
		t.Error(e)
	}
	if _, e := p.Insert(make([]byte, 500)); !isFault(e, 1, api.ErrMany) {
		t.Error("ErrMany goes ahead: ", e)
	}
	insert(t, p, 88, 'b')
	if p.Free() != 0 || !isFault(p.Set(1, make([]byte, 89)), 1, api.ErrFull) || !isFault(p.Set(0, make([]byte, 401)), 0, api.ErrMany) {
		t.Error("it is full")
	}
	if b, _ := p.Get(1); !bytes.Equal(b, bytes.Repeat([]byte{'b'}, 88)) {
		t.Error("what is refused changes nothing")
	}
	if e := p.Set(0, make([]byte, 399)); e != nil || p.Free() != 1 {
		t.Error(e)
	}
	if e := p.Set(1, make([]byte, 89)); e != nil || p.Free() != 0 {
		t.Error(e)
	}
	p = fresh(t, 1, 7)
	for n := range api.MaxSlots {
		if insert(t, p, 4, byte(n)) != n {
			t.Fatal(n)
		}
	}
	if p.Free() != 512-16-240-240 {
		t.Errorf("Free %d", p.Free())
	}
	if _, e := p.Insert(nil); !isFault(e, api.MaxSlots, api.ErrFull) {
		t.Error("no slot more: ", e)
	}
	p.Delete(33)
	if insert(t, p, 20, 'x') != 33 || p.Free() != 0 {
		t.Errorf("Free %d", p.Free())
	}
	p.Delete(33)
	if _, e := p.Insert(make([]byte, 21)); !isFault(e, 33, api.ErrFull) {
		t.Error(e)
	}
}

// laid is how the words lay a page.
func laid(kind, id int, l map[int][]byte) []byte {
	b, count, end := make([]byte, 512), 0, 512
	for n := range 60 {
		if _, ok := l[n]; ok {
			count = n + 1
			end -= len(l[n])
			copy(b[end:], l[n])
			binary.LittleEndian.PutUint16(b[16+4*n:], uint16(end))
			binary.LittleEndian.PutUint16(b[18+4*n:], uint16(len(l[n])+1))
		}
	}
	b[0], b[1] = byte(kind), byte(count)
	binary.LittleEndian.PutUint32(b[2:], uint32(id))
	binary.LittleEndian.PutUint32(b[12:], crc32.ChecksumIEEE(b))
	return b
}

// By chance, against a map of what is in the slots.
func TestP11_2P11_3ByChance(t *testing.T) {
	r := rand.New(rand.NewSource(11))
	for range 60 {
		kind, id := r.Intn(256), r.Intn(1<<32)
		p, l := fresh(t, kind, id), map[int][]byte{}
		for range 150 {
			n, b := r.Intn(12), bytes.Repeat([]byte{byte(r.Intn(256))}, r.Intn(1+r.Intn(200)))
			switch r.Intn(4) {
			case 0:
				if _, ok := l[n]; ok != (p.Delete(n) == nil) {
					t.Fatal("Delete")
				}
				delete(l, n)
			case 1:
				if p.Set(n, b) == nil {
					l[n] = bytes.Clone(b)
				}
			default:
				if slot, e := p.Insert(b); e == nil {
					l[slot] = bytes.Clone(b)
				}
			}
			if len(b) > 0 {
				b[0]++ // what is handed in is not kept
			}
			got := p.Bytes()
			if !bytes.Equal(got, laid(kind, id, l)) {
				t.Fatalf("Bytes of %v", l)
			}
			q, e := Parse(got)
			if e != nil || q.Kind() != kind || q.ID() != id || !slices.Equal(q.Slots(), p.Slots()) || q.Free() != p.Free() || !bytes.Equal(q.Bytes(), got) {
				t.Fatalf("Parse: %v", e)
			}
			used, top := 16, 0
			for n := range 60 {
				want, ok := l[n]
				b, e := q.Get(n)
				if ok != (e == nil) || !bytes.Equal(b, want) || ok != slices.Contains(p.Slots(), n) {
					t.Fatalf("slot %d: %x, %v", n, b, e)
				}
				if ok {
					top = n + 1
					used += len(want)
				}
			}
			if p.Free() != 512-used-4*top || !slices.IsSorted(p.Slots()) {
				t.Fatalf("Free %d", p.Free())
			}
		}
	}
}

// sealed is b with its sum set right.
func sealed(b []byte) []byte {
	b = bytes.Clone(b)
	copy(b[12:16], make([]byte, 4))
	binary.LittleEndian.PutUint32(b[12:], crc32.ChecksumIEEE(b))
	return b
}

func TestP11_3ParseRefuses(t *testing.T) {
	p := fresh(t, 3, 1000)
	insert(t, p, 5, 'a')
	insert(t, p, 0, 0)
	insert(t, p, 7, 'c')
	p.Delete(1)
	good := p.Bytes()
	with := func(at int, v byte) []byte {
		b := bytes.Clone(good)
		b[at] = v
		return sealed(b)
	}
	wrong := [][]byte{
		nil, {}, make([]byte, 512), make([]byte, 511), good[:511], append(bytes.Clone(good), 0),
		with(1, 2), with(1, 4), with(1, 61), with(1, 255), with(6, 1), with(11, 1), with(16, 0), with(17, 255), with(18, 7), with(19, 255),
		with(20, 1), with(22, 1), with(28, 1), with(200, 1), sealed(bytes.Repeat([]byte{60}, 512)),
	}
	long := laid(1, 1, map[int][]byte{0: make([]byte, 450)})
	wrong = append(wrong, long, laid(1, 1, map[int][]byte{0: make([]byte, 401)}))
	for i, b := range wrong {
		if q, e := Parse(b); q != nil || !isFault(e, 0, api.ErrBad) {
			t.Errorf("%d: Parse: %v", i, e)
		}
	}
	for bit := range 512 * 8 {
		b := bytes.Clone(good)
		b[bit/8] ^= 1 << (bit % 8)
		if q, e := Parse(b); q != nil || !isFault(e, 0, api.ErrBad) {
			t.Fatalf("P11.5: bit %d turned: %v", bit, e)
		}
	}
	if _, e := Parse(with(0, 9)); e != nil {
		t.Errorf("another kind: %v", e)
	}
	if _, e := Parse(laid(1, 1, map[int][]byte{0: make([]byte, 400)})); e != nil {
		t.Errorf("400 bytes: %v", e)
	}
}

func TestP11_4NilAndZero(t *testing.T) {
	for _, p := range []*Page{nil, {}} {
		if p.Kind() != 0 || p.ID() != 0 || p.Free() != 0 || len(p.Slots()) != 0 || p.Bytes() != nil {
			t.Error("a nil or zero Page has nothing")
		}
		if b, e := p.Get(0); b != nil || !isFault(e, 0, api.ErrNone) || !isFault(p.Delete(3), 3, api.ErrNone) || !isFault(p.Set(-1, nil), -1, api.ErrNone) {
			t.Error(e)
		}
		if n, e := p.Insert(nil); n != 0 || !isFault(e, 0, api.ErrFull) {
			t.Error(e)
		}
		if _, e := p.Insert(make([]byte, 401)); !isFault(e, 0, api.ErrMany) {
			t.Error(e)
		}
	}
}

func TestP11_5NewMemory(t *testing.T) {
	p := fresh(t, 1, 1)
	insert(t, p, 4, 'a')
	b, _ := p.Get(0)
	b[0] = 'z'
	laid := p.Bytes()
	q, _ := Parse(laid)
	laid[511] = 'z'
	p.Slots()[0] = 9
	for _, x := range []*Page{p, q} {
		if got, _ := x.Get(0); string(got) != "aaaa" {
			t.Errorf("%s", got)
		}
	}
}
