package wal

import (
	"bytes"
	"errors"
	"fmt"
	"math"
	"math/rand"
	"testing"

	"pergola/api"
	"pergola/disk"
	"pergola/frame"
)

// isFault tells whether e is a log's Fault with an ID that is the error want.
func isFault(e error, id int, want api.Errno) bool {
	var f *api.Fault
	return errors.As(e, &f) && f.Op == "wal" && f.ID == id && errors.Is(e, want)
}

func newDisk(t *testing.T, sectors int) *disk.Disk {
	t.Helper()
	d, e := disk.New(sectors)
	if e != nil {
		t.Fatal(e)
	}
	return d
}

func opened(t *testing.T, d *disk.Disk, from, to int) *Log {
	t.Helper()
	l, e := Open(d, from, to)
	if e != nil {
		t.Fatal(e)
	}
	return l
}

// state is what a log tells: of each record its number and its text.
func state(l *Log) string {
	s := fmt.Sprintf("%d to %d:", l.First(), l.Len())
	for k := l.First(); k < l.Len(); k++ {
		b, e := l.Read(k)
		s += fmt.Sprintf(" %q", b)
		if e != nil {
			s += e.Error()
		}
	}
	return s
}

// plain is the log as a list, by its words.
type plain struct {
	first   int
	records []string
}

func (p plain) String() string {
	s := fmt.Sprintf("%d to %d:", p.first, p.first+len(p.records))
	for _, r := range p.records {
		s += fmt.Sprintf(" %q", r)
	}
	return s
}

func (p plain) with(l [][]byte) plain {
	p.records = append([]string(nil), p.records...)
	for _, r := range l {
		p.records = append(p.records, string(r))
	}
	return p
}

func (p plain) from(k int) plain {
	return plain{first: k, records: p.records[k-p.first:]}
}

// room tells whether there must be room for l too.
func (p plain) room(sectors int, l [][]byte) bool {
	sum := 0
	for _, r := range p.with(l).records {
		sum += len(r) + 32
	}
	return 2*sum <= 64*sectors-512
}

func TestP13_1Open(t *testing.T) {
	d := newDisk(t, 40)
	for _, v := range [][2]int{{-1, 20}, {0, 15}, {5, 20}, {24, 41}, {30, 20}, {math.MaxInt, 20}, {0, math.MaxInt}, {math.MinInt, 16}, {0, math.MinInt}, {math.MaxInt, math.MinInt}, {-20, -4}} {
		if l, e := Open(d, v[0], v[1]); l != nil || !isFault(e, v[0], api.ErrArg) {
			t.Errorf("Open(%d, %d): %v", v[0], v[1], e)
		}
	}
	for _, d := range []*disk.Disk{nil, {}} {
		if l, e := Open(d, 0, 16); l != nil || !isFault(e, 0, api.ErrArg) {
			t.Errorf("Open of none: %v", e)
		}
	}
	for _, v := range [][2]int{{0, 16}, {24, 40}, {0, 40}, {3, 39}} {
		if l := opened(t, d, v[0], v[1]); state(l) != "0 to 0:" || l.Dead() {
			t.Errorf("noughts are an empty log: %s", state(l))
		}
	}
	d.Cut(0)
	if l, e := Open(d, 7, 30); l != nil || !isFault(e, 7, api.ErrOff) {
		t.Errorf("what is told is for good: %v", e)
	}
}

func TestP13_1SpoiltSectors(t *testing.T) {
	d := newDisk(t, 60)
	l := opened(t, d, 10, 50)
	l.Append([]byte("a"), bytes.Repeat([]byte("b"), 100))
	l.Append([]byte("c"), []byte("d"))
	l.Trim(1)
	l.Append(bytes.Repeat([]byte("e"), 70))
	want := state(l)
	for at := 10; at < 50; at++ {
		was, _ := d.Read(at)
		for bit := range 512 {
			c, b := d.Copy(), bytes.Clone(was)
			b[bit/8] ^= 1 << (bit % 8)
			c.Write(at, b)
			if l, e := Open(c, 10, 50); l != nil || !isFault(e, 10, api.ErrBad) {
				t.Fatalf("bit %d of sector %d turned: %v", bit, at, e)
			}
		}
		for _, junk := range []byte{1, 0xff, 0xaa} {
			c := d.Copy()
			c.Write(at, bytes.Repeat([]byte{junk}, 64))
			if _, e := Open(c, 10, 50); !isFault(e, 10, api.ErrBad) {
				t.Fatalf("junk in sector %d: %v", at, e)
			}
		}
	}
	c := d.Copy()
	c.Write(12, make([]byte, 64)) // of a record that was told
	if _, e := Open(c, 10, 50); !isFault(e, 10, api.ErrBad) {
		t.Errorf("a lost record: %v", e)
	}
	c = d.Copy()
	for at := 11; at < 50; at++ {
		c.Write(at, make([]byte, 64))
	}
	if _, e := Open(c, 10, 50); !isFault(e, 10, api.ErrBad) {
		t.Errorf("all records lost: %v", e)
	}
	c = newDisk(t, 16)
	never := opened(t, c, 0, 16) // trimmed
	never.Append([]byte("a"))
	never.Append([]byte("b"))
	c.Write(1, make([]byte, 64))
	if _, e := Open(c, 0, 16); !isFault(e, 0, api.ErrBad) {
		t.Errorf("a record lost ahead of another one: %v", e)
	}
	for _, at := range []int{9, 50} {
		d.Write(at, bytes.Repeat([]byte{7}, 64))
	}
	d.Cut(1)
	if l := opened(t, d, 10, 50); state(l) != want {
		t.Errorf("other sectors: %s", state(l))
	}
	bad := d.Crash(nil, -1)
	bad.Write(20, bytes.Repeat([]byte{7}, 64))
	bad.Cut(0)
	if _, e := Open(bad, 10, 50); !isFault(e, 10, api.ErrBad) {
		t.Errorf("ErrBad goes ahead of ErrOff: %v", e)
	}
}

func TestP13_2Append(t *testing.T) {
	d := newDisk(t, 200)
	l := opened(t, d, 0, 200)
	many := make([][]byte, 41)
	for i := range many {
		many[i] = []byte{byte('a' + i%26)}
	}
	if n, e := l.Append(); n != 0 || !isFault(e, 0, api.ErrArg) {
		t.Error(e)
	}
	if n, e := l.Append(many...); n != 0 || !isFault(e, 0, api.ErrMany) {
		t.Error(e)
	}
	if n, e := l.Append([]byte("a"), make([]byte, 1201)); n != 0 || !isFault(e, 0, api.ErrMany) {
		t.Error(e)
	}
	if state(l) != "0 to 0:" || l.Dead() {
		t.Error("nothing has happened")
	}
	long := bytes.Repeat([]byte("xyz"), 400)
	if n, e := l.Append([]byte("a"), nil, long); n != 0 || e != nil {
		t.Error(n, e)
	}
	if n, e := l.Append(many[:40]...); n != 3 || e != nil {
		t.Error(n, e)
	}
	long[0] = 'A' // what is handed in is not kept
	b, e := l.Read(2)
	if e != nil || len(b) != 1200 || b[0] != 'x' {
		t.Errorf("Read(2): %d bytes, %v", len(b), e)
	}
	b[1] = 'Y' // what is answered is new memory
	want := plain{}.with([][]byte{[]byte("a"), nil, bytes.Repeat([]byte("xyz"), 400)}).with(many[:40]).String()
	for _, c := range []*disk.Disk{d, d.Crash(nil, -1)} {
		if got := state(opened(t, c, 0, 200)); got != want || state(l) != want {
			t.Errorf("it is for good: %s", got)
		}
	}
	for _, k := range []int{-1, 43, math.MaxInt, math.MinInt} {
		if b, e := l.Read(k); b != nil || !isFault(e, k, api.ErrNone) {
			t.Errorf("Read(%d): %v", k, e)
		}
		if e := l.Trim(k); !isFault(e, k, api.ErrNone) && k != 43 {
			t.Errorf("Trim(%d): %v", k, e)
		}
	}
}

// Sizes at which a record needs a sector more; each as many as must find room.
func TestP13_2Room(t *testing.T) {
	r := rand.New(rand.NewSource(13))
	for _, sectors := range []int{16, 17, 30, 100} {
		for size := range 140 {
			d := newDisk(t, sectors)
			l, p := opened(t, d, 0, sectors), plain{}
			for p.room(sectors, [][]byte{make([]byte, size)}) {
				if _, e := l.Append(make([]byte, size)); e != nil {
					t.Fatalf("%d sectors, records of %d bytes, the %d-th: %v", sectors, size, l.Len(), e)
				}
				p = p.with([][]byte{make([]byte, size)})
			}
		}
		d := newDisk(t, sectors)
		l, p, full := opened(t, d, 0, sectors), plain{}, 0
		for range 800 {
			batch := [][]byte{}
			for range 1 + r.Intn(4) {
				batch = append(batch, make([]byte, r.Intn(1+r.Intn(1+sectors*6))))
			}
			_, e := l.Append(batch...)
			switch {
			case e == nil:
				p = p.with(batch)
			case !isFault(e, 0, api.ErrFull) || p.room(sectors, batch):
				t.Fatalf("%d sectors, %v: %v", sectors, p, e)
			default:
				full++
				k := p.first + r.Intn(len(p.records)+1)
				if e := l.Trim(k); e != nil {
					t.Fatal(e)
				}
				p = p.from(k)
			}
			if state(l) != p.String() {
				t.Fatalf("%s, not %s", state(l), p)
			}
		}
		if got := state(opened(t, d.Crash(nil, -1), 0, sectors)); got != p.String() || full < 20 {
			t.Errorf("behind a crash: %s", got)
		}
	}
}

func TestP13_3Trim(t *testing.T) {
	d := newDisk(t, 40)
	l := opened(t, d, 4, 36)
	l.Append([]byte("a"), []byte("b"), []byte("c"))
	if e := l.Trim(4); !isFault(e, 4, api.ErrNone) {
		t.Error(e)
	}
	if e := l.Trim(1); e != nil || l.First() != 1 || l.Len() != 3 {
		t.Error(e)
	}
	if b, e := l.Read(1); string(b) != "b" || e != nil {
		t.Errorf("the example: %s, %v", b, e)
	}
	if _, e := l.Read(0); !isFault(e, 0, api.ErrNone) {
		t.Error(e)
	}
	if e := l.Trim(0); !isFault(e, 0, api.ErrNone) {
		t.Error(e)
	}
	if got := state(opened(t, d.Crash(nil, -1), 4, 36)); got != `1 to 3: "b" "c"` {
		t.Errorf("for good: %s", got)
	}
	if l.Trim(1) != nil || l.Trim(3) != nil || state(l) != "3 to 3:" || state(opened(t, d.Crash(nil, -1), 4, 36)) != "3 to 3:" {
		t.Error(state(l))
	}
	if n, e := l.Append([]byte("d")); n != 3 || e != nil {
		t.Error(n, e)
	}
}

func TestP13_3Dead(t *testing.T) {
	for cut := range 3 {
		d := newDisk(t, 20)
		l := opened(t, d, 0, 20)
		l.Append([]byte("a"))
		d.Cut(cut)
		n, e := l.Append([]byte("b"), []byte("c"))
		if n != 0 || !isFault(e, 0, api.ErrOff) || !l.Dead() || state(l) != `0 to 1: "a"` {
			t.Errorf("cut at %d: %d, %v, %s", cut, n, e, state(l))
		}
		if _, e := l.Append(); !isFault(e, 0, api.ErrArg) {
			t.Error(e)
		}
		if _, e := l.Append(make([]byte, 1201)); !isFault(e, 0, api.ErrMany) {
			t.Error(e)
		}
		if _, e := l.Append(make([]byte, 1200)); !isFault(e, 0, api.ErrOff) {
			t.Error("ErrOff goes ahead of ErrFull: ", e)
		}
		if e := l.Trim(1); !isFault(e, 1, api.ErrOff) {
			t.Error(e)
		}
		if e := l.Trim(2); !isFault(e, 2, api.ErrNone) {
			t.Error(e)
		}
	}
	d := newDisk(t, 20)
	l := opened(t, d, 0, 20)
	l.Append([]byte("a"))
	d.Cut(1)
	if e := l.Trim(1); !isFault(e, 1, api.ErrOff) || !l.Dead() || l.First() > 1 {
		t.Error(e)
	}
}

// keeps is ways in which a crash keeps what waits.
func keeps(r *rand.Rand) ([]bool, int) {
	keep := make([]bool, r.Intn(5))
	for i := range keep {
		keep[i] = r.Intn(2) == 0
	}
	return keep, r.Intn(8) - 2
}

// TestP13_4 crashes one log again and again, within all calls, and holds it against the states that are allowed.
func TestP13_4TheLawOfCrashes(t *testing.T) {
	for seed := range int64(60) {
		r := rand.New(rand.NewSource(seed))
		sectors := 16 + r.Intn(30)
		d := newDisk(t, sectors+5)
		may := []plain{{}} // the states that are allowed
		for step := range 250 {
			if r.Intn(4) == 0 {
				d.Cut(0)
				if _, e := Open(d, 5, 5+sectors); !isFault(e, 5, api.ErrOff) {
					t.Fatal(e)
				}
				d = d.Crash(keeps(r))
			}
			l, e := Open(d, 5, 5+sectors)
			if e != nil {
				t.Fatalf("seed %d, step %d: %v", seed, step, e)
			}
			found := -1
			for i, p := range may {
				if p.String() == state(l) {
					found = i
				}
			}
			if found < 0 {
				t.Fatalf("seed %d, step %d: %s, not of %v", seed, step, state(l), may)
			}
			may = []plain{may[found]}
			d.Cut(r.Intn(30))
			for !l.Dead() {
				may = work(t, r, l, may[0], sectors)
			}
			d = d.Crash(keeps(r))
		}
	}
}

// work does one call to a log that is p; it answers the states that are allowed then.
func work(t *testing.T, r *rand.Rand, l *Log, p plain, sectors int) []plain {
	t.Helper()
	if r.Intn(4) == 0 {
		k := p.first + r.Intn(len(p.records)+1)
		if e := l.Trim(k); e != nil {
			return []plain{p, p.from(k)}
		}
		return []plain{p.from(k)}
	}
	batch := [][]byte{}
	for range 1 + r.Intn(4) {
		// Few texts, so that what was left of one Append is like what another one writes.
		batch = append(batch, bytes.Repeat([]byte{byte('a' + r.Intn(2))}, []int{0, 1, 30, 37, 50, 80, 120}[r.Intn(7)]))
	}
	_, e := l.Append(batch...)
	switch {
	case e == nil:
		return []plain{p.with(batch)}
	case errors.Is(e, api.ErrOff):
		return []plain{p, p.with(batch)}
	case !errors.Is(e, api.ErrFull) || p.room(sectors, batch):
		t.Fatal(e)
	}
	if e := l.Trim(p.first + len(p.records)); e != nil {
		return []plain{p, p.from(p.first + len(p.records))}
	}
	return []plain{p.from(p.first + len(p.records))}
}

// All cuts of one script, with all of some ways to crash.
func TestP13_4EachOp(t *testing.T) {
	batch := func(s ...string) [][]byte { return plain{}.bytes(s) }
	script := func(l *Log) (may []plain) {
		p := plain{}
		for _, do := range []any{batch("aa", "bb"), batch("c"), 1, batch("", string(make([]byte, 90))), 3, batch("e", "f", "g"), 4, 8, batch("h")} {
			e, next := error(nil), plain{}
			switch x := do.(type) {
			case int:
				e, next = l.Trim(x), p.from(x)
			case [][]byte:
				next = p.with(x)
				_, e = l.Append(x...)
			}
			if e != nil {
				return []plain{p, next}
			}
			p = next
		}
		return []plain{p}
	}
	for cut := 0; ; cut++ {
		d := newDisk(t, 16)
		l := opened(t, d, 0, 16)
		d.Cut(cut)
		may := script(l)
		for _, keep := range [][]bool{nil, {true}, {true, false}, {false, true}, {true, true, false}} {
			for torn := -1; torn < 6; torn++ {
				got := state(opened(t, d.Crash(keep, torn), 0, 16))
				if got != may[0].String() && got != may[len(may)-1].String() {
					t.Fatalf("cut at %d, %v, %d: %s, not of %v", cut, keep, torn, got, may)
				}
			}
		}
		if len(may) == 1 {
			break
		}
	}
}

func (plain) bytes(l []string) [][]byte {
	b := [][]byte{}
	for _, s := range l {
		b = append(b, []byte(s))
	}
	return b
}

// Records that look like what a log or a frame is made of are records.
func TestRecordsThatLookLikeSectors(t *testing.T) {
	d := newDisk(t, 120)
	l, p := opened(t, d, 0, 120), plain{}
	for range 12 {
		batch := [][]byte{}
		for at := range 3 {
			b, _ := d.Read(at)
			batch = append(batch, b, append(b[leftLen:], b...))
		}
		f, _ := frame.Put(batch[0])
		batch = append(batch, f)
		if _, e := l.Append(batch...); e != nil {
			l.Trim(l.Len() - 1)
			p = p.from(l.Len() - 1)
			continue
		}
		p = p.with(batch)
		if got := state(opened(t, d.Crash(nil, -1), 0, 120)); got != p.String() {
			t.Fatalf("%s, not %s", got, p)
		}
	}
}

// Two logs beside each other on one disk.
func TestBeside(t *testing.T) {
	d := newDisk(t, 64)
	a, b := opened(t, d, 0, 32), opened(t, d, 32, 64)
	for i := range 40 {
		if _, e := a.Append([]byte{byte(i)}); e != nil {
			a.Trim(a.Len())
		}
		if _, e := b.Append(bytes.Repeat([]byte{byte(i)}, 50)); e != nil {
			b.Trim(b.First() + 3)
		}
	}
	c := d.Crash(nil, -1)
	if state(opened(t, c, 0, 32)) != state(a) || state(opened(t, c, 32, 64)) != state(b) {
		t.Error("one log changed the other")
	}
}

func TestP13_5NilAndZero(t *testing.T) {
	for _, l := range []*Log{nil, {}} {
		if l.First() != 0 || l.Len() != 0 || !l.Dead() {
			t.Error("a nil or zero Log has nothing")
		}
		if b, e := l.Read(0); b != nil || !isFault(e, 0, api.ErrNone) {
			t.Error(e)
		}
		if e := l.Trim(0); !isFault(e, 0, api.ErrOff) {
			t.Error(e)
		}
		if e := l.Trim(1); !isFault(e, 1, api.ErrNone) {
			t.Error(e)
		}
		for want, batch := range map[api.Errno][][]byte{api.ErrArg: nil, api.ErrMany: make([][]byte, 41), api.ErrOff: make([][]byte, 40)} {
			if n, e := l.Append(batch...); n != 0 || !isFault(e, 0, want) {
				t.Error(e)
			}
		}
	}
}
