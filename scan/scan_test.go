package scan

import (
	"errors"
	"math"
	"math/rand"
	"slices"
	"testing"

	"pergola/api"
	"pergola/gist"
	"pergola/opclass"
)

const far = api.MaxCoord

func at(x, y int) api.Point { return api.Point{X: x, Y: y} }

// isFault tells whether e is a Fault of these that is the error want.
func isFault(e error, op string, id int, want api.Errno) bool {
	var f *api.Fault
	return errors.As(e, &f) && f.Op == op && f.ID == id && errors.Is(e, want)
}

// grown is a tree of n points.
func grown(t *testing.T, n int) *gist.Tree {
	t.Helper()
	c, _ := opclass.Boxes(api.KPoint)
	x, e := gist.New(c, 4)
	if e != nil {
		t.Fatal(e)
	}
	r := rand.New(rand.NewSource(22))
	for id := range n {
		x.Insert(id*3, api.Object{Kind: api.KPoint, Points: []api.Point{at(r.Intn(20), r.Intn(20))}})
	}
	return x
}

var everything = api.Query{Kind: api.QMeets, Box: api.Box{Lo: at(-far, -far), Hi: at(far, far)}}

// rest is all that a cursor still tells, by Next.
func rest(t *testing.T, c *Cursor) []api.Near {
	t.Helper()
	l := []api.Near{}
	for {
		n, e := c.Next()
		if e != nil {
			if n != (api.Near{}) || !isFault(e, "cursor", c.Told(), api.ErrNone) {
				t.Fatalf("the end: %v, %v", n, e)
			}
			return l
		}
		l = append(l, n)
	}
}

// opened is both cursors of a tree, and what they should tell.
func opened(t *testing.T, x *gist.Tree) (cursors []*Cursor, want [][]api.Near) {
	t.Helper()
	q := api.Query{Kind: api.QInside, Box: api.Box{Lo: at(3, 2), Hi: at(17, 18)}}
	found := []api.Near{}
	for _, id := range x.Search(q) {
		found = append(found, api.Near{ID: id})
	}
	a, e := Open(x, q)
	b, f := Near(x, at(7, 9))
	if e != nil || f != nil {
		t.Fatal(e, f)
	}
	return []*Cursor{a, b}, [][]api.Near{found, x.Nearest(at(7, 9), x.Len())}
}

func TestP18_1Refused(t *testing.T) {
	for _, x := range []*gist.Tree{nil, {}, grown(t, 5)} {
		for want, q := range map[api.Errno]api.Query{api.ErrKind: {}, api.ErrArg: {Kind: api.QMeets, Box: api.Box{Lo: at(1, 0)}}, api.ErrRange: {Kind: api.QHas, Box: api.Box{Lo: at(far+1, 0)}}, api.ErrVerts: {Kind: api.QCross}} {
			if c, e := Open(x, q); c != nil || !isFault(e, "scan", 0, want) {
				t.Errorf("Open(%v): %v", q, e)
			}
		}
		if c, e := Near(x, at(math.MinInt, 0)); c != nil || !isFault(e, "scan", 0, api.ErrRange) {
			t.Errorf("Near: %v", e)
		}
	}
}

func TestP18_1NothingIsTold(t *testing.T) {
	for _, x := range []*gist.Tree{nil, {}, grown(t, 0)} {
		a, e := Open(x, everything)
		b, f := Near(x, at(0, 0))
		if e != nil || f != nil || len(rest(t, a)) != 0 || len(rest(t, b)) != 0 {
			t.Errorf("of none: %v, %v", e, f)
		}
	}
}

func TestP18_1AsItWas(t *testing.T) {
	x := grown(t, 120)
	cursors, want := opened(t, x)
	if len(want[0]) < 40 || len(want[1]) != 120 {
		t.Fatal("too few")
	}
	for i, c := range cursors {
		if got, e := c.Take(2); e != nil || !slices.Equal(got, want[i][:2]) {
			t.Errorf("Take(2) = %v, %v", got, e)
		}
		for id := range 60 { // whatever is done later
			x.Delete(id * 3)
			x.Insert(1000+id*10+i, api.Object{Kind: api.KPoint, Points: []api.Point{at(8, 9)}})
		}
		if got := rest(t, c); !slices.Equal(got, want[i][2:]) {
			t.Errorf("it tells %v, not %v", got, want[i][2:])
		}
	}
}

func TestP18_2P18_3ByPieces(t *testing.T) {
	x := grown(t, 70)
	r := rand.New(rand.NewSource(23))
	for range 50 {
		cursors, want := opened(t, x)
		for i, c := range cursors {
			told := []api.Near{}
			for len(told) < len(want[i]) {
				n := r.Intn(9) - 2
				l, e := c.Take(n)
				if left := len(want[i]) - len(told); e != nil || len(l) != max(0, min(n, left)) {
					t.Fatalf("Take(%d) of %d: %d, %v", n, left, len(l), e)
				}
				told = append(told, l...)
				if c.Told() != len(told) || !slices.Equal(told, want[i][:len(told)]) {
					t.Fatalf("it told %d, %v", c.Told(), told)
				}
				if next, e := c.Next(); e == nil {
					told = append(told, next)
				}
			}
			for _, n := range []int{-1, 0, 1, math.MaxInt} {
				if l, e := c.Take(n); e != nil || len(l) != 0 {
					t.Errorf("Take(%d) at the end: %v, %v", n, l, e)
				}
			}
			if len(rest(t, c)) != 0 || c.Told() != len(want[i]) {
				t.Errorf("Told %d", c.Told())
			}
		}
	}
	cursors, want := opened(t, x)
	for i, c := range cursors {
		if l, e := c.Take(math.MaxInt); e != nil || !slices.Equal(l, want[i]) {
			t.Errorf("all at once: %v", e)
		}
	}
}

func TestP18_2Closed(t *testing.T) {
	cursors, _ := opened(t, grown(t, 50))
	for _, c := range cursors {
		c.Take(7)
		if c.Close() != nil || c.Told() != 7 {
			t.Error("Close")
		}
	}
	for i, c := range append(cursors, nil, &Cursor{}) {
		told := []int{7, 7, 0, 0}[i]
		if n, e := c.Next(); n != (api.Near{}) || !isFault(e, "cursor", told, api.ErrClosed) {
			t.Errorf("Next: %v", e)
		}
		for _, n := range []int{-1, 0, 3} {
			if l, e := c.Take(n); l != nil || !isFault(e, "cursor", told, api.ErrClosed) {
				t.Errorf("Take(%d): %v", n, e)
			}
		}
		if e := c.Close(); !isFault(e, "cursor", told, api.ErrClosed) || c.Told() != told {
			t.Errorf("Close: %v", e)
		}
	}
}
