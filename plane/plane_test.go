package plane

import (
	"errors"
	"math"
	"math/big"
	"math/rand"
	"testing"

	"pergola/api"
	"pergola/wide"
)

const far = api.MaxCoord

func at(x, y int) api.Point { return api.Point{X: x, Y: y} }

func box(a, b, c, d int) api.Box { return api.Box{Lo: at(a, b), Hi: at(c, d)} }

// tooFar is points that may not be.
func tooFar() []api.Point {
	l := []api.Point{}
	for _, v := range []int{far + 1, -far - 1, math.MaxInt, math.MinInt} {
		l = append(l, at(v, 0), at(0, v), at(v, v))
	}
	return l
}

// refusedBoxes is boxes that may not be.
func refusedBoxes() []api.Box {
	l := []api.Box{box(1, 0, 0, 0), box(0, 1, 0, 0), box(far, 0, -far, 0)}
	for _, p := range tooFar() {
		l = append(l, api.Box{Lo: p, Hi: at(1, 1)}, api.Box{Lo: at(-1, -1), Hi: p}, api.Box{Lo: p, Hi: p})
	}
	return l
}

// points is those of edges, and some by chance.
func points() []api.Point {
	l := []api.Point{}
	for _, x := range []int{-far, -1, 0, 1, 2, far} {
		for _, y := range []int{-far, 0, 1, far} {
			l = append(l, at(x, y))
		}
	}
	r := rand.New(rand.NewSource(3))
	for range 20 {
		l = append(l, at(r.Intn(2*far+1)-far, r.Intn(2*far+1)-far))
	}
	return l
}

func TestP3_1Checks(t *testing.T) {
	for _, p := range points() {
		if e := CheckPoint(p); e != nil {
			t.Errorf("CheckPoint(%v): %v", p, e)
		}
	}
	for _, p := range tooFar() {
		if e := CheckPoint(p); !errors.Is(e, api.ErrRange) {
			t.Errorf("CheckPoint(%v): %v", p, e)
		}
	}
	for _, b := range []api.Box{{}, box(-far, -far, far, far), box(2, 3, 2, 3), box(0, 0, 1, 0)} {
		if e := CheckBox(b); e != nil {
			t.Errorf("CheckBox(%v): %v", b, e)
		}
	}
	for _, b := range []api.Box{box(1, 0, 0, 5), box(0, 1, 5, 0), box(1, 1, 0, 0)} {
		if e := CheckBox(b); !errors.Is(e, api.ErrArg) {
			t.Errorf("CheckBox(%v): %v", b, e)
		}
	}
	for _, b := range []api.Box{box(0, 0, 0, far+1), box(far+1, 0, 0, 0), box(5, 0, 0, -far-1), box(math.MinInt, 0, 1, 1)} {
		if e := CheckBox(b); !errors.Is(e, api.ErrRange) {
			t.Errorf("CheckBox(%v): %v", b, e)
		}
	}
}

// cross is Cross by the library's numbers.
func cross(a, b, c api.Point) *big.Int {
	gap := func(v, w int) *big.Int { return new(big.Int).Sub(big.NewInt(int64(v)), big.NewInt(int64(w))) }
	x := new(big.Int).Mul(gap(b.X, a.X), gap(c.Y, a.Y))
	return x.Sub(x, new(big.Int).Mul(gap(b.Y, a.Y), gap(c.X, a.X)))
}

func TestP3_2CrossOrientSquare(t *testing.T) {
	l := points()
	for _, a := range l {
		for _, b := range l {
			for _, c := range l {
				want := cross(a, b, c)
				if !want.IsInt64() || int64(Cross(a, b, c)) != want.Int64() || Orient(a, b, c) != want.Sign() {
					t.Fatalf("Cross(%v, %v, %v) = %d", a, b, c, Cross(a, b, c))
				}
			}
			x, y := wide.Square(b.X-a.X), wide.Square(b.Y-a.Y)
			sum, _ := wide.Add(x, y)
			if got := Square(a, b); got != (api.Dist{Hi: sum.Hi, Lo: sum.Lo, Den: 1}) {
				t.Fatalf("Square(%v, %v) = %v", a, b, got)
			}
		}
	}
	if Orient(at(0, 0), at(1, 0), at(0, 1)) != 1 {
		t.Error("left is 1")
	}
	for _, p := range tooFar() {
		a, b := at(0, 0), at(1, 3)
		if Cross(p, a, b) != 0 || Cross(a, p, b) != 0 || Cross(a, b, p) != 0 || Orient(a, b, p) != 0 || Orient(p, a, b) != 0 {
			t.Errorf("Cross, Orient with %v", p)
		}
		if Square(a, p) != (api.Dist{}) || Square(p, a) != (api.Dist{}) {
			t.Errorf("Square with %v", p)
		}
	}
}

// smallBoxes is all boxes of a small square.
func smallBoxes() []api.Box {
	l := []api.Box{}
	for i := range 256 {
		if b := box(i&3, i>>2&3, i>>4&3, i>>6); b.Lo.X <= b.Hi.X && b.Lo.Y <= b.Hi.Y {
			l = append(l, b)
		}
	}
	return l
}

func TestP3_3Boxes(t *testing.T) {
	for _, a := range smallBoxes() {
		for _, b := range smallBoxes() {
			meets, inside := false, true
			for i := range 16 {
				p := at(i&3, i>>2)
				inA := a.Lo.X <= p.X && p.X <= a.Hi.X && a.Lo.Y <= p.Y && p.Y <= a.Hi.Y
				inB := b.Lo.X <= p.X && p.X <= b.Hi.X && b.Lo.Y <= p.Y && p.Y <= b.Hi.Y
				if Has(a, p) != inA {
					t.Fatalf("Has(%v, %v)", a, p)
				}
				meets, inside = meets || inA && inB, inside && (inB || !inA)
			}
			if Meets(a, b) != meets || Inside(a, b) != inside {
				t.Fatalf("Meets, Inside(%v, %v) = %v, %v", a, b, Meets(a, b), Inside(a, b))
			}
			all, e := Union(a, b)
			want := box(min(a.Lo.X, b.Lo.X), min(a.Lo.Y, b.Lo.Y), max(a.Hi.X, b.Hi.X), max(a.Hi.Y, b.Hi.Y))
			if e != nil || all != want {
				t.Fatalf("Union(%v, %v) = %v, %v", a, b, all, e)
			}
			more, _ := wide.Sub(Area(all), Area(a))
			if Grow(a, b) != more {
				t.Fatalf("Grow(%v, %v) = %v", a, b, Grow(a, b))
			}
		}
	}
}

func TestP3_3Refused(t *testing.T) {
	good, p := box(-2, -2, 2, 2), at(0, 0)
	for _, b := range refusedBoxes() {
		if Has(b, p) || Meets(b, good) || Meets(good, b) || Inside(b, good) || Inside(good, b) {
			t.Errorf("%v is asked", b)
		}
		if Area(b) != (wide.U{}) || Grow(b, good) != (wide.U{}) || Grow(good, b) != (wide.U{}) || Dist(b, p) != (api.Dist{}) {
			t.Errorf("%v is measured", b)
		}
		all, e := Union(good, b, box(5, 5, 0, 0))
		if all != (api.Box{}) || !errors.Is(e, CheckBox(b)) {
			t.Errorf("Union with %v: %v, %v", b, all, e)
		}
	}
	for _, q := range tooFar() {
		if Has(box(-far, -far, far, far), q) || Dist(good, q) != (api.Dist{}) {
			t.Errorf("%v is asked", q)
		}
	}
	if _, e := Union(); !errors.Is(e, api.ErrArg) {
		t.Errorf("Union(): %v", e)
	}
}

func TestP3_3Dist(t *testing.T) {
	b := box(0, 0, 2, 2)
	cases := map[api.Point]uint64{
		at(5, 6): 25, at(1, 1): 0, at(0, 2): 0, at(3, 1): 1, at(-2, 1): 4, at(1, -3): 9, at(1, 6): 16, at(-1, -1): 2, at(3, -2): 5,
	}
	for p, want := range cases {
		if got := Dist(b, p); got != (api.Dist{Lo: want, Den: 1}) {
			t.Errorf("Dist(%v) = %v", p, got)
		}
	}
}

func TestP3_4NothingRunsOver(t *testing.T) {
	side := uint64(2 * far)
	all, corner := box(-far, -far, far, far), box(-far, -far, -far, -far)
	if Area(all) != wide.Mul(side, side) || Grow(corner, all) != wide.Mul(side, side) {
		t.Errorf("Area = %v", Area(all))
	}
	if got := Dist(corner, at(far, far)); got != (api.Dist{Lo: 2 * side * side, Den: 1}) {
		t.Errorf("Dist = %v", got)
	}
}

func TestAround(t *testing.T) {
	if Around(nil) != (api.Box{}) || Around([]api.Point{at(3, -1), at(2, 5)}) != box(2, -1, 3, 5) {
		t.Error("Around is the box of points")
	}
}
