package segm

import (
	"math"
	"math/big"
	"testing"

	"pergola/api"
	"pergola/plane"
	"pergola/ratio"
	"pergola/wide"
)

const far = api.MaxCoord

func at(x, y int) api.Point { return api.Point{X: x, Y: y} }

// grid is the points of a square of n n.
func grid(n int) []api.Point {
	l := []api.Point{}
	for i := range n * n {
		l = append(l, at(i%n, i/n))
	}
	return l
}

// part tells whether 0 <= num / den <= 1; den is not 0.
func part(num, den int) bool {
	if den < 0 {
		num, den = -num, -den
	}
	return 0 <= num && num <= den
}

// meetPlainly solves a + t (b - a) = c + u (d - c).
func meetPlainly(a, b, c, d api.Point) bool {
	cross := func(p, q api.Point) int { return p.X*q.Y - p.Y*q.X }
	less := func(p, q api.Point) api.Point { return at(p.X-q.X, p.Y-q.Y) }
	ab, cd, ac := less(b, a), less(d, c), less(c, a)
	if den := cross(ab, cd); den != 0 {
		return part(cross(ac, cd), den) && part(cross(ac, ab), den)
	}
	if cross(ab, ac) != 0 || cross(cd, ac) != 0 {
		return false
	}
	one := func(p api.Point) int { return p.X*100 + p.Y }
	if a == b && c == d {
		return a == c
	}
	return max(min(one(a), one(b)), min(one(c), one(d))) <= min(max(one(a), one(b)), max(one(c), one(d)))
}

func TestP4_1Meet(t *testing.T) {
	l := grid(4)
	for _, a := range l {
		for _, b := range l {
			for _, c := range l {
				if On(a, b, c) != meetPlainly(a, b, c, c) {
					t.Fatalf("On(%v, %v, %v)", a, b, c)
				}
				for _, d := range l {
					want := meetPlainly(a, b, c, d)
					if Meet(a, b, c, d) != want {
						t.Fatalf("Meet(%v, %v, %v, %v) is not %v", a, b, c, d, want)
					}
					end := On(a, b, c) || On(a, b, d) || On(c, d, a) || On(c, d, b)
					if Proper(a, b, c, d) != (want && !end) {
						t.Fatalf("Proper(%v, %v, %v, %v)", a, b, c, d)
					}
				}
			}
		}
	}
}

// clips tells whether the segment has a point in r, by cutting it at each side.
func clips(a, b api.Point, r api.Box) bool {
	from, to := new(big.Rat), big.NewRat(1, 1)
	cut := func(step, room int) bool { // t step <= room
		if step == 0 {
			return room >= 0
		}
		at := big.NewRat(int64(room), int64(step))
		if step > 0 && at.Cmp(to) < 0 {
			to = at
		}
		if step < 0 && at.Cmp(from) > 0 {
			from = at
		}
		return true
	}
	x, y := b.X-a.X, b.Y-a.Y
	return cut(x, r.Hi.X-a.X) && cut(-x, a.X-r.Lo.X) && cut(y, r.Hi.Y-a.Y) && cut(-y, a.Y-r.Lo.Y) && from.Cmp(to) <= 0
}

func TestP4_2MeetsBox(t *testing.T) {
	l := grid(6)
	boxes := []api.Box{{Lo: at(2, 2), Hi: at(3, 3)}, {Lo: at(1, 2), Hi: at(4, 3)}, {Lo: at(2, 2), Hi: at(2, 2)}, {Lo: at(2, 1), Hi: at(2, 4)}, {Lo: at(1, 1), Hi: at(4, 1)}}
	for _, r := range boxes {
		for _, a := range l {
			for _, b := range l {
				if MeetsBox(a, b, r) != clips(a, b, r) {
					t.Fatalf("MeetsBox(%v, %v, %v) = %v", a, b, r, MeetsBox(a, b, r))
				}
			}
		}
	}
	if !MeetsBox(at(-far, -far), at(far, far), api.Box{Lo: at(0, 0), Hi: at(0, 0)}) || MeetsBox(at(-far, -far+1), at(far, far), api.Box{Lo: at(0, 0), Hi: at(0, 0)}) {
		t.Error("MeetsBox of far ends")
	}
}

// distPlainly is Dist by fractions of the library.
func distPlainly(a, b, p api.Point) *big.Rat {
	x, y, px, py := int64(b.X-a.X), int64(b.Y-a.Y), int64(p.X-a.X), int64(p.Y-a.Y)
	step := new(big.Rat)
	if x != 0 || y != 0 {
		along := new(big.Int).Add(new(big.Int).Mul(big.NewInt(x), big.NewInt(px)), new(big.Int).Mul(big.NewInt(y), big.NewInt(py)))
		whole := new(big.Int).Add(new(big.Int).Mul(big.NewInt(x), big.NewInt(x)), new(big.Int).Mul(big.NewInt(y), big.NewInt(y)))
		step.SetFrac(along, whole)
	}
	if step.Sign() < 0 {
		step.SetInt64(0)
	}
	if step.Cmp(big.NewRat(1, 1)) > 0 {
		step.SetInt64(1)
	}
	gap := func(d, p int64) *big.Rat {
		g := new(big.Rat).Mul(step, big.NewRat(d, 1))
		g.Sub(g, big.NewRat(p, 1))
		return g.Mul(g, g)
	}
	return gap(x, px).Add(gap(x, px), gap(y, py))
}

func TestP4_2Dist(t *testing.T) {
	l := append(grid(5), at(-far, -far), at(far, far), at(-far, far), at(far-1, far), at(-far, 7))
	for _, a := range l {
		for _, b := range l {
			for _, p := range l {
				got, want := Dist(a, b, p), distPlainly(a, b, p)
				num := new(big.Int).SetUint64(got.Hi)
				num.Lsh(num, 64).Or(num, new(big.Int).SetUint64(got.Lo))
				if num.Cmp(want.Num()) != 0 || want.Denom().Cmp(new(big.Int).SetUint64(got.Den)) != 0 {
					t.Fatalf("Dist(%v, %v, %v) = %v, not %v", a, b, p, got, want)
				}
				if On(a, b, p) != (ratio.Compare(got, ratio.Of(0)) == 0) {
					t.Fatalf("P4.3: Dist(%v, %v, %v) = %v", a, b, p, got)
				}
			}
		}
	}
	if Dist(at(0, 0), at(1, 1), at(0, 1)) != (api.Dist{Lo: 1, Den: 2}) {
		t.Error("the example")
	}
}

func TestP4_3MeetIsEven(t *testing.T) {
	l := append(grid(3), at(far, far), at(-far, far-1))
	for _, a := range l {
		for _, b := range l {
			for _, c := range l {
				for _, d := range l {
					m, p := Meet(a, b, c, d), Proper(a, b, c, d)
					if Meet(c, d, a, b) != m || Meet(b, a, c, d) != m || Meet(a, b, d, c) != m {
						t.Fatalf("Meet(%v, %v, %v, %v) is not even", a, b, c, d)
					}
					if Proper(c, d, a, b) != p || Proper(b, a, c, d) != p || Proper(a, b, d, c) != p {
						t.Fatalf("Proper(%v, %v, %v, %v) is not even", a, b, c, d)
					}
				}
			}
		}
	}
}

func TestRefused(t *testing.T) {
	a, b, c := at(0, 0), at(4, 4), at(2, 2)
	r := api.Box{Lo: at(-1, -1), Hi: at(1, 1)}
	for _, p := range []api.Point{at(far+1, 0), at(0, -far-1), at(math.MaxInt, math.MaxInt), at(math.MinInt, 0)} {
		if plane.CheckPoint(p) == nil {
			t.Fatal(p)
		}
		if On(p, b, c) || On(a, p, a) || On(a, b, p) || On(p, p, p) {
			t.Errorf("On with %v", p)
		}
		if Meet(p, b, c, c) || Meet(a, p, a, a) || Meet(a, b, p, c) || Meet(a, b, a, p) || Proper(p, a, b, c) || Proper(a, b, c, p) {
			t.Errorf("Meet with %v", p)
		}
		if MeetsBox(p, a, r) || MeetsBox(a, p, r) || MeetsBox(a, b, api.Box{Lo: at(-1, -1), Hi: p}) || MeetsBox(a, b, api.Box{Lo: p, Hi: b}) {
			t.Errorf("MeetsBox with %v", p)
		}
		if Dist(p, a, b) != (api.Dist{}) || Dist(a, p, b) != (api.Dist{}) || Dist(a, b, p) != (api.Dist{}) {
			t.Errorf("Dist with %v", p)
		}
	}
	if MeetsBox(a, b, api.Box{Lo: at(1, 1), Hi: at(0, 0)}) {
		t.Error("a box may not be turned round")
	}
	side := uint64(2 * far)
	if got := Dist(at(-far, -far), at(far-1, far), at(-far, far)); wide.Compare(wide.U{Hi: got.Hi, Lo: got.Lo}, wide.Mul(side, side)) >= 0 && got.Den == 1 {
		t.Errorf("Dist ran over: %v", got)
	}
}
