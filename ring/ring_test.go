package ring

import (
	"errors"
	"math"
	"math/rand"
	"slices"
	"testing"

	"pergola/api"
	"pergola/segm"
	"pergola/wide"
)

const far = api.MaxCoord

func at(x, y int) api.Point { return api.Point{X: x, Y: y} }

// ringOf is the ring of x, y, x, y ..
func ringOf(v ...int) []api.Point {
	l := []api.Point{}
	for i := 0; i+1 < len(v); i += 2 {
		l = append(l, at(v[i], v[i+1]))
	}
	return l
}

// comb is a ring of n corners (even, 6 and more) with teeth.
func comb(n int) []api.Point {
	l := ringOf(n, 0, 0, 0)
	for i := range n - 2 {
		l = append(l, at(i, 5+3*(i%2)))
	}
	return l
}

func TestP5_1Passes(t *testing.T) {
	good := [][]api.Point{
		ringOf(0, 0, 4, 0, 0, 4),
		ringOf(0, 0, 0, 4, 4, 0),
		ringOf(0, 0, 2, 0, 4, 0, 4, 4), // straight on at a corner
		ringOf(0, 0, 4, 0, 4, 4, 2, 1, 0, 4),
		ringOf(-far, -far, far, -far, far, far, -far, far),
		comb(6), comb(64),
	}
	for _, l := range good {
		if e := Check(l); e != nil {
			t.Errorf("Check(%v): %v", l, e)
		}
	}
}

func TestP5_1Refused(t *testing.T) {
	spoilt := comb(64)
	spoilt[63] = spoilt[60]
	farAway := comb(6)
	farAway[4].Y, farAway[5].X = far+1, math.MinInt
	cases := []struct {
		l    []api.Point
		want api.Errno
		id   int
	}{
		{nil, api.ErrVerts, 0},
		{ringOf(1, 1), api.ErrVerts, 1},
		{ringOf(0, 0, 1, 1), api.ErrVerts, 2},
		{make([]api.Point, 65), api.ErrVerts, 65},
		{ringOf(math.MaxInt, 0, 1, 1), api.ErrVerts, 2},
		{ringOf(0, 0, 0, 0, far+1, 0), api.ErrRange, 2},
		{farAway, api.ErrRange, 4},
		{ringOf(0, 0, 4, 4, 4, 0, 0, 4), api.ErrSimple, 0}, // a bow tie
		{ringOf(0, 0, 1, 1, 2, 2), api.ErrSimple, 0},       // on one line
		{ringOf(0, 0, 0, 0, 0, 0), api.ErrSimple, 0},
		{ringOf(0, 0, 4, 0, 4, 4, 4, 2), api.ErrSimple, 1},             // folds back
		{ringOf(0, 0, 9, 0, 9, 9, 5, 9, 7, 9, 0, 9), api.ErrSimple, 2}, // and beyond
		{ringOf(5, -5, 9, 0, 9, 9, 4, 9, 4, 2, 12, 2, 12, 20, 0, 20), api.ErrSimple, 1},
		{ringOf(0, 9, 0, 0, 4, 0, 4, 4, 2, 4, 4, 4), api.ErrSimple, 2}, // corners 3 and 5 are alike, the edges 2 and 4 meet there
		{ringOf(0, 0, 4, 0, 4, 4, 0, 0), api.ErrSimple, 0},
		{ringOf(4, 0, 4, 4, 4, 4, 0, 4), api.ErrSimple, 0},                       // edges 0 and 2 meet in the corner that stands twice
		{ringOf(0, 0, 6, 0, 6, 6, 3, 0, 0, 6), api.ErrSimple, 0},                 // a corner on an edge
		{ringOf(20, -9, 0, 0, 6, 0, 6, 6, 3, 0, 0, 6), api.ErrSimple, 1},         // likewise, one further on
		{ringOf(0, 0, 4, 0, 4, 4, -4, 4, -4, -1, 6, -1, 6, 0), api.ErrSimple, 0}, // the last edge goes over the first corner's
		{spoilt, api.ErrSimple, 59},
	}
	for _, c := range cases {
		e := Check(c.l)
		var f *api.Fault
		if !errors.Is(e, c.want) || !errors.As(e, &f) || f.Op != "ring" || f.ID != c.id {
			t.Errorf("Check(%v): %v, not error %d at %d", c.l, e, c.want, c.id)
		}
		if b, e := Box(c.l); b != (api.Box{}) || !errors.Is(e, c.want) {
			t.Errorf("Box(%v) = %v, %v", c.l, b, e)
		}
		if Twice(c.l) != (wide.U{}) || Left(c.l) || Edge(c.l, at(0, 0)) || Has(c.l, at(0, 0)) {
			t.Errorf("%v is asked", c.l)
		}
	}
}

// leastToBlame is the words of P5.1, one by one; -1 of a simple ring.
func leastToBlame(l []api.Point) int {
	n := len(l)
	for i := range n {
		for j := range n {
			if i == j {
				continue
			}
			a, b, c, d := l[i], l[(i+1)%n], l[j], l[(j+1)%n]
			more := false
			switch {
			case (i+1)%n == j:
				more = a != b && segm.On(c, d, a) || d != b && segm.On(a, b, d)
			case (j+1)%n == i:
				more = c != a && segm.On(a, b, c) || b != a && segm.On(c, d, b)
			default:
				more = segm.Meet(a, b, c, d)
			}
			if more || a == c {
				return i
			}
		}
	}
	return -1
}

// someRings is rings of small coordinates by chance; of many the sides meet.
func someRings(count int) [][]api.Point {
	r := rand.New(rand.NewSource(5))
	l := make([][]api.Point, count)
	for i := range l {
		size := 3 + r.Intn(25)
		for range 3 + r.Intn(5) {
			l[i] = append(l[i], at(r.Intn(size), r.Intn(size)))
		}
	}
	return l
}

func TestP5_1ByItsWords(t *testing.T) {
	simple := 0
	for _, l := range someRings(20000) {
		want := leastToBlame(l)
		e := Check(l)
		var f *api.Fault
		if errors.As(e, &f) != (want >= 0) || f != nil && f.ID != want {
			t.Fatalf("Check(%v): %v, not at %d", l, e, want)
		}
		if want < 0 {
			simple++
		}
	}
	if simple < 1000 {
		t.Errorf("%d simple rings alone", simple)
	}
}

// winds is the winding number of a ring around p, which is on no edge.
func winds(l []api.Point, p api.Point) int {
	sum := 0.0
	for a, b := range Edges(l) {
		turn := math.Atan2(float64(b.Y-p.Y), float64(b.X-p.X)) - math.Atan2(float64(a.Y-p.Y), float64(a.X-p.X))
		sum += math.Remainder(turn, 2*math.Pi)
	}
	return int(math.Round(sum / (2 * math.Pi)))
}

func TestP5_2Answers(t *testing.T) {
	for _, l := range someRings(3000) {
		if Check(l) != nil {
			continue
		}
		lo, hi, inside := l[0], l[0], 0
		for _, p := range l {
			lo, hi = at(min(lo.X, p.X), min(lo.Y, p.Y)), at(max(hi.X, p.X), max(hi.Y, p.Y))
		}
		if b, e := Box(l); e != nil || b != (api.Box{Lo: lo, Hi: hi}) {
			t.Fatalf("Box(%v) = %v, %v", l, b, e)
		}
		edge := 0
		for x := lo.X - 1; x <= hi.X+1; x++ {
			for y := lo.Y - 1; y <= hi.Y+1; y++ {
				p, on := at(x, y), false
				for i := range l {
					on = on || segm.On(l[i], l[(i+1)%len(l)], p)
				}
				want := on || winds(l, p) != 0
				if Edge(l, p) != on || Has(l, p) != want {
					t.Fatalf("%v at %v: %v, %v", l, p, Edge(l, p), Has(l, p))
				}
				if on {
					edge++
				} else if want {
					inside++
					if Left(l) != (winds(l, p) > 0) {
						t.Fatalf("Left(%v)", l)
					}
				}
			}
		}
		if Twice(l) != (wide.U{Lo: uint64(2*inside + edge - 2)}) { // Pick
			t.Fatalf("Twice(%v) = %v", l, Twice(l))
		}
	}
}

func TestP5_2Far(t *testing.T) {
	l := ringOf(-far, -far, far, -far, far, far, -far, far)
	if side := uint64(2 * far); Twice(l) != (wide.U{Lo: 2 * side * side}) || !Left(l) {
		t.Errorf("Twice = %v", Twice(l))
	}
	for _, p := range []api.Point{at(far+1, 0), at(math.MinInt, 0), at(0, math.MaxInt)} {
		if Has(l, p) || Edge(l, p) {
			t.Errorf("%v is told", p)
		}
	}
}

func TestP5_3Turned(t *testing.T) {
	for _, l := range append(someRings(500), comb(64)) {
		if Check(l) != nil {
			continue
		}
		back := slices.Clone(l)
		slices.Reverse(back)
		for i := range l {
			m := append(slices.Clone(l[i:]), l[:i]...)
			if Check(m) != nil || Twice(m) != Twice(l) || Left(m) != Left(l) {
				t.Fatalf("%v begun at %d", l, i)
			}
			p := at(i, i/2)
			if Has(m, p) != Has(l, p) || Edge(m, p) != Edge(l, p) || Has(back, p) != Has(l, p) || Edge(back, p) != Edge(l, p) {
				t.Fatalf("%v begun at %d, at %v", l, i, p)
			}
		}
		if Check(back) != nil || Twice(back) != Twice(l) || Left(back) == Left(l) {
			t.Fatalf("%v turned round", l)
		}
	}
}
