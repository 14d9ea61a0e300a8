package hull

import (
	"errors"
	"math"
	"math/rand"
	"slices"
	"testing"

	"pergola/api"
	"pergola/plane"
	"pergola/ratio"
	"pergola/ring"
)

const far = api.MaxCoord

func at(x, y int) api.Point { return api.Point{X: x, Y: y} }

func pointsOf(v ...int) []api.Point {
	l := []api.Point{}
	for i := 0; i+1 < len(v); i += 2 {
		l = append(l, at(v[i], v[i+1]))
	}
	return l
}

// isFault tells whether e is a hull's Fault with an ID that is the error want.
func isFault(e error, id int, want api.Errno) bool {
	var f *api.Fault
	return errors.As(e, &f) && f.Op == "hull" && f.ID == id && errors.Is(e, want)
}

func TestP21_1Refused(t *testing.T) {
	many := make([]api.Point, 1001)
	many[3].X = far + 1
	cases := []struct {
		l    []api.Point
		id   int
		want api.Errno
		two  bool // of those that ask for two
	}{
		{nil, 0, api.ErrArg, true},
		{pointsOf(far+1, 0), 1, api.ErrArg, true},
		{pointsOf(1, 1), 1, api.ErrArg, true},
		{many, 1001, api.ErrMany, false},
		{many[:1000], 3, api.ErrRange, false},
		{pointsOf(0, 0, 1, math.MinInt, far+1, 1), 1, api.ErrRange, false},
	}
	for _, c := range cases {
		for _, f := range []func(l []api.Point) (int, int, api.Dist, error){Closest, Widest} {
			if i, j, d, e := f(c.l); i != 0 || j != 0 || d != (api.Dist{}) || !isFault(e, c.id, c.want) {
				t.Errorf("of %d points: %d, %d, %v, %v", len(c.l), i, j, d, e)
			}
		}
		if c.two && len(c.l) > 0 {
			continue
		}
		if h, e := Hull(c.l); h != nil || !isFault(e, c.id, c.want) {
			t.Errorf("Hull of %d points: %v", len(c.l), e)
		}
		if b, e := Box(c.l); b != (api.Box{}) || !isFault(e, c.id, c.want) {
			t.Errorf("Box of %d points: %v", len(c.l), e)
		}
		if Convex(c.l) {
			t.Errorf("Convex of %d points", len(c.l))
		}
	}
	if h, e := Hull(pointsOf(far+1, 0)); h != nil || !isFault(e, 0, api.ErrRange) {
		t.Error(e)
	}
	if _, e := Hull(many[:1000:1000][:3]); e != nil {
		t.Error(e)
	}
}

func TestP21_1Hull(t *testing.T) {
	cases := []struct{ l, want []api.Point }{
		{pointsOf(0, 0, 2, 0, 1, 1, 0, 2), pointsOf(0, 0, 2, 0, 0, 2)},
		{pointsOf(5, -5), pointsOf(5, -5)},
		{pointsOf(5, 5, 5, 5, 5, 5), pointsOf(5, 5)},
		{pointsOf(3, 3, 1, 1), pointsOf(1, 1, 3, 3)},
		{pointsOf(2, 2, 3, 3, 1, 1, 2, 2), pointsOf(1, 1, 3, 3)},
		{pointsOf(4, 1, 4, -7, 4, 0), pointsOf(4, -7, 4, 1)},
		{pointsOf(0, 0, 1, 0, 2, 0, 2, 1, 2, 2, 1, 2, 0, 2, 0, 1, 1, 1), pointsOf(0, 0, 2, 0, 2, 2, 0, 2)},
		{pointsOf(far, far, -far, -far, far, -far, -far, far, 0, 0), pointsOf(-far, -far, far, -far, far, far, -far, far)},
	}
	for _, c := range cases {
		before := slices.Clone(c.l)
		if got, e := Hull(c.l); e != nil || !slices.Equal(got, c.want) || !slices.Equal(c.l, before) {
			t.Errorf("Hull(%v) = %v, %v", before, got, e)
		}
	}
}

// some is points by chance, many of them alike or on a line.
func some(r *rand.Rand, n int) []api.Point {
	l := []api.Point{}
	for range n {
		l = append(l, at(r.Intn(7), r.Intn(7)*(1+r.Intn(2))))
	}
	return l
}

// corner tells whether p is a corner of the convex set of l: it is not within what others span.
func corner(p api.Point, l []api.Point) bool {
	for i, a := range l {
		for _, b := range l[i+1:] {
			if a == p || b == p {
				continue
			}
			if plane.Orient(a, b, p) == 0 && plane.Has(plane.Around([]api.Point{a, b}), p) {
				return false
			}
			for _, c := range l {
				if c != p && plane.Orient(a, b, c) != 0 && ring.Has([]api.Point{a, b, c}, p) {
					return false
				}
			}
		}
	}
	return true
}

func TestP21_1P21_3ByChance(t *testing.T) {
	r := rand.New(rand.NewSource(29))
	for range 400 {
		l := some(r, 1+r.Intn(12))
		h, e := Hull(l)
		if e != nil {
			t.Fatal(e)
		}
		want := 0
		for i, p := range l {
			is := corner(p, l)
			if slices.Contains(h, p) != is {
				t.Fatalf("Hull(%v) = %v: %v", l, h, p)
			}
			if is && slices.Index(l, p) == i {
				want++
			}
		}
		for i := range h {
			next, behind := h[(i+1)%len(h)], h[(i+2)%len(h)]
			if len(h) > 2 && plane.Orient(h[i], next, behind) != 1 || i > 0 && (h[i].X < h[0].X || h[i].X == h[0].X && h[i].Y <= h[0].Y) {
				t.Fatalf("Hull(%v) = %v", l, h)
			}
		}
		r.Shuffle(len(l), func(i, j int) { l[i], l[j] = l[j], l[i] })
		again, _ := Hull(l)
		twice, _ := Hull(h)
		if len(h) != want || !slices.Equal(again, h) || !slices.Equal(twice, h) || len(h) > 2 && !Convex(h) {
			t.Fatalf("Hull(%v) = %v, again %v", l, h, again)
		}
		if b, e := Box(l); e != nil || b != plane.Around(h) {
			t.Fatalf("Box(%v) = %v, %v", l, b, e)
		}
	}
}

func TestP21_2ClosestAndWidest(t *testing.T) {
	r := rand.New(rand.NewSource(30))
	for range 500 {
		l := some(r, 2+r.Intn(9))
		least, most := [3]int{-1}, [3]int{-1}
		for i, p := range l {
			for j := i + 1; j < len(l); j++ {
				d := (p.X-l[j].X)*(p.X-l[j].X) + (p.Y-l[j].Y)*(p.Y-l[j].Y)
				if least[0] < 0 || d < least[2] {
					least = [3]int{i, j, d}
				}
				if most[0] < 0 || d > most[2] {
					most = [3]int{i, j, d}
				}
			}
		}
		i, j, d, e := Closest(l)
		if e != nil || [2]int{i, j} != [2]int{least[0], least[1]} || d != (api.Dist{Lo: uint64(least[2]), Den: 1}) {
			t.Fatalf("Closest(%v) = %d, %d, %v, %v", l, i, j, d, e)
		}
		i, j, d, e = Widest(l)
		if e != nil || [2]int{i, j} != [2]int{most[0], most[1]} || d != (api.Dist{Lo: uint64(most[2]), Den: 1}) {
			t.Fatalf("Widest(%v) = %d, %d, %v, %v", l, i, j, d, e)
		}
	}
	if _, _, d, _ := Widest(pointsOf(-far, -far, far, far)); ratio.Compare(d, api.Dist{Lo: 8 * far * far, Den: 1}) != 0 {
		t.Errorf("far: %v", d)
	}
	many := make([]api.Point, 1000)
	if i, j, d, e := Widest(many); e != nil || i != 0 || j != 1 || d != ratio.Of(0) {
		t.Errorf("all alike: %d, %d, %v, %v", i, j, d, e)
	}
}

func TestP21_2Convex(t *testing.T) {
	round := pointsOf(0, 0, 4, 0, 6, 3, 4, 6, 0, 6, -2, 3)
	back := slices.Clone(round)
	slices.Reverse(back)
	for _, l := range [][]api.Point{round, back, pointsOf(0, 0, 1, 0, 2, 0, 0, 2), pointsOf(-far, -far, far, -far, far, far)} {
		if !Convex(l) {
			t.Errorf("%v is convex", l)
		}
	}
	star := pointsOf(0, 30, 18, -24, -29, 9, 29, 9, -18, -24) // turns to one side alone, but meets itself
	for _, l := range [][]api.Point{pointsOf(0, 0, 4, 0, 4, 4, 3, 1), pointsOf(0, 0, 1, 1, 2, 2), pointsOf(0, 0, 1, 1), star, make([]api.Point, 65), pointsOf(0, 0, far+1, 0, 0, 1)} {
		if Convex(l) {
			t.Errorf("%v is not convex", l)
		}
	}
}
