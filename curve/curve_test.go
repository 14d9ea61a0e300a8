package curve

import (
	"errors"
	"math"
	"math/rand"
	"testing"

	"pergola/api"
)

const far = api.MaxCoord

func at(x, y int) api.Point { return api.Point{X: x, Y: y} }

// isFault tells whether e is a curve's Fault that is the error want.
func isFault(e error, want api.Errno) bool {
	var f *api.Fault
	return errors.As(e, &f) && f.Op == "curve" && f.ID == 0 && errors.Is(e, want)
}

func points() []api.Point {
	l := []api.Point{{}, at(1, 0), at(0, 1), at(far, far), at(-far, -far), at(-far, far), at(-1, -1)}
	r := rand.New(rand.NewSource(24))
	for range 500 {
		l = append(l, at(r.Intn(2*far+1)-far, r.Intn(2*far+1)-far))
	}
	return l
}

func TestP19_1Z(t *testing.T) {
	for _, p := range points() {
		want := uint64(0)
		for i := range 32 {
			want |= uint64((p.X+1<<30)>>i&1)<<(2*i) | uint64((p.Y+1<<30)>>i&1)<<(2*i+1)
		}
		v, e := Z(p)
		if e != nil || v != want {
			t.Fatalf("Z(%v) = %d, %v, not %d", p, v, e, want)
		}
		if q, e := Unz(v); e != nil || q != p {
			t.Fatalf("Unz(%d) = %v, %v", v, q, e)
		}
	}
	for _, p := range []api.Point{at(far+1, 0), at(0, -far-1), at(math.MinInt, math.MaxInt)} {
		if v, e := Z(p); v != 0 || !isFault(e, api.ErrRange) {
			t.Errorf("Z(%v) = %d, %v", p, v, e)
		}
	}
	for _, v := range []uint64{0, 1, 2, 0x1555555555555555, 0x2aaaaaaaaaaaaaaa, 1 << 62, 1<<63 | 3, math.MaxUint64} {
		if p, e := Unz(v); p != (api.Point{}) || !isFault(e, api.ErrRange) {
			t.Errorf("Unz(%d) = %v, %v", v, p, e)
		}
	}
	if p, e := Unz(1<<62 - 1); e != nil || p != at(far, far) {
		t.Errorf("the last one: %v, %v", p, e)
	}
	if p, e := Unz(3); e != nil || p != at(-far, -far) {
		t.Errorf("the first one: %v, %v", p, e)
	}
}

// drawn is the points of the curve, by its words.
func drawn(bits int) []api.Point {
	if bits == 0 {
		return []api.Point{{}}
	}
	l, side := []api.Point{}, 1<<(bits-1)
	for quarter, low := range []api.Point{at(0, 0), at(0, side), at(side, side), at(side, 0)} {
		for _, p := range drawn(bits - 1) {
			switch quarter {
			case 0:
				p = at(p.Y, p.X)
			case 3:
				p = at(side-1-p.Y, side-1-p.X)
			}
			l = append(l, at(low.X+p.X, low.Y+p.Y))
		}
	}
	return l
}

func TestP19_2Hilbert(t *testing.T) {
	for bits := 1; bits <= 7; bits++ {
		for place, p := range drawn(bits) {
			v, e := Hilbert(p, bits)
			q, f := Unhilbert(uint64(place), bits)
			if e != nil || f != nil || v != uint64(place) || q != p {
				t.Fatalf("%d bits: %v is the %d-th, not the %d-th, which is %v", bits, p, v, place, q)
			}
		}
	}
	if v, e := Hilbert(at(1, 0), 1); e != nil || v != 3 {
		t.Errorf("the example: %d, %v", v, e)
	}
}

func TestP19_2Refused(t *testing.T) {
	for _, bits := range []int{0, -1, 32, math.MaxInt, math.MinInt} {
		if v, e := Hilbert(at(-1, 0), bits); v != 0 || !isFault(e, api.ErrArg) {
			t.Errorf("Hilbert of %d bits: %v", bits, e)
		}
		if p, e := Unhilbert(math.MaxUint64, bits); p != (api.Point{}) || !isFault(e, api.ErrArg) {
			t.Errorf("Unhilbert of %d bits: %v", bits, e)
		}
	}
	for bits := 1; bits <= 31; bits++ {
		end := 1 << bits
		for _, p := range []api.Point{at(end, 0), at(0, end), at(-1, 0), at(0, -1), at(math.MaxInt, 0), at(0, math.MinInt)} {
			if v, e := Hilbert(p, bits); v != 0 || !isFault(e, api.ErrRange) {
				t.Errorf("Hilbert(%v, %d): %v", p, bits, e)
			}
		}
		for _, v := range []uint64{1 << (2 * bits), math.MaxUint64} {
			if p, e := Unhilbert(v, bits); p != (api.Point{}) || !isFault(e, api.ErrRange) {
				t.Errorf("Unhilbert(%d, %d): %v", v, bits, e)
			}
		}
		if v, e := Hilbert(at(end-1, 0), bits); e != nil || v != 1<<(2*bits)-1 {
			t.Errorf("the last one of %d bits: %d, %v", bits, v, e)
		}
	}
}

func TestP19_3Centre(t *testing.T) {
	cases := map[api.Box]api.Point{
		{}:                                    {},
		{Hi: at(3, 4)}:                        at(1, 2),
		{Lo: at(-3, -4), Hi: at(0, 1)}:        at(-2, -2),
		{Lo: at(-far, far), Hi: at(far, far)}: at(0, far),
		{Lo: at(-far, -far), Hi: at(1-far, -far)}: at(-far, -far),
	}
	for b, want := range cases {
		if p, e := Centre(b); e != nil || p != want {
			t.Errorf("Centre(%v) = %v, %v", b, p, e)
		}
	}
	for b, want := range map[api.Box]api.Errno{{Lo: at(1, 0)}: api.ErrArg, {Hi: at(0, far+1)}: api.ErrRange, {Lo: at(math.MinInt, 0)}: api.ErrRange} {
		if p, e := Centre(b); p != (api.Point{}) || !isFault(e, want) {
			t.Errorf("Centre(%v) = %v, %v", b, p, e)
		}
	}
}

func TestP19_4Neighbours(t *testing.T) {
	r := rand.New(rand.NewSource(25))
	for bits := 1; bits <= 31; bits++ {
		for range 300 {
			v := r.Uint64() % (1<<(2*bits) - 1)
			p, e := Unhilbert(v, bits)
			q, f := Unhilbert(v+1, bits)
			if dx, dy := p.X-q.X, p.Y-q.Y; e != nil || f != nil || dx*dx+dy*dy != 1 {
				t.Fatalf("%d bits: %v and %v", bits, p, q)
			}
			if back, e := Hilbert(p, bits); e != nil || back != v {
				t.Fatalf("%d bits: %v is the %d-th, not the %d-th", bits, p, back, v)
			}
		}
	}
}
