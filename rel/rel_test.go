package rel

import (
	"errors"
	"math"
	"math/rand"
	"testing"

	"pergola/api"
	"pergola/plane"
	"pergola/ratio"
	"pergola/ring"
	"pergola/segm"
)

const far = api.MaxCoord

func at(x, y int) api.Point { return api.Point{X: x, Y: y} }

// object is one of points x, y, x, y ..
func object(kind int, v ...int) api.Object {
	o := api.Object{Kind: kind}
	for i := 0; i+1 < len(v); i += 2 {
		o.Points = append(o.Points, at(v[i], v[i+1]))
	}
	return o
}

func boxOf(a, b, c, d int) api.Box { return api.Box{Lo: at(a, b), Hi: at(c, d)} }

// refusedObjects is objects that may not be, and why.
func refusedObjects() []struct {
	o    api.Object
	want api.Errno
} {
	return []struct {
		o    api.Object
		want api.Errno
	}{
		{api.Object{}, api.ErrKind},
		{object(5, 0, 0), api.ErrKind},
		{object(-1, 0, 0), api.ErrKind},
		{object(math.MaxInt), api.ErrKind},
		{object(api.KPoint), api.ErrVerts},
		{object(api.KPoint, 0, 0, 1, 1), api.ErrVerts},
		{object(api.KPoint, far+1, 0, 1, 1), api.ErrVerts},
		{object(api.KPoint, far+1, 0), api.ErrRange},
		{object(api.KPoint, 0, math.MinInt), api.ErrRange},
		{object(api.KInterval), api.ErrVerts},
		{object(api.KInterval, 0, 1, 2, 3), api.ErrVerts},
		{object(api.KInterval, 2, 1), api.ErrArg},
		{object(api.KInterval, -far-1, 1), api.ErrRange},
		{object(api.KInterval, 0, far+1), api.ErrRange},
		{object(api.KInterval, far+1, 0), api.ErrRange},
		{object(api.KBox, 0, 0), api.ErrVerts},
		{object(api.KBox, 0, 0, 1, 1, 2, 2), api.ErrVerts},
		{object(api.KBox, 1, 0, 0, 1), api.ErrArg},
		{object(api.KBox, 0, 1, 1, 0), api.ErrArg},
		{object(api.KBox, 0, 0, far+1, 0), api.ErrRange},
		{object(api.KPolygon, 0, 0, 1, 1), api.ErrVerts},
		{api.Object{Kind: api.KPolygon, Points: make([]api.Point, 65)}, api.ErrVerts},
		{object(api.KPolygon, 0, 0, 1, 1, far+1, 0), api.ErrRange},
		{object(api.KPolygon, 0, 0, 4, 4, 4, 0, 0, 4), api.ErrSimple},
	}
}

// goodObjects is objects of all kinds that may be.
func goodObjects() []api.Object {
	return []api.Object{
		object(api.KPoint, 0, 0), object(api.KPoint, -far, far), object(api.KPoint, 3, 2),
		object(api.KInterval, 0, 0), object(api.KInterval, -far, far), object(api.KInterval, 2, 5),
		object(api.KBox, 0, 0, 0, 0), object(api.KBox, 1, 1, 4, 3), object(api.KBox, -far, -far, far, far), object(api.KBox, 2, -1, 2, 6),
		object(api.KPolygon, 0, 0, 4, 0, 0, 4), object(api.KPolygon, 0, 4, 4, 4, 4, 0, 6, 0, 6, 6, 0, 6),
		object(api.KPolygon, -far, -far, far, -far, 0, far),
	}
}

// isFault tells whether e is a Fault of these that is the error want.
func isFault(e error, op string, id int, want api.Errno) bool {
	var f *api.Fault
	return errors.As(e, &f) && f.Op == op && f.ID == id && errors.Is(e, want)
}

func TestP6_1Check(t *testing.T) {
	for _, o := range goodObjects() {
		if e := Check(o); e != nil {
			t.Errorf("Check(%v): %v", o, e)
		}
	}
	for _, c := range refusedObjects() {
		if e := Check(c.o); !isFault(e, "object", c.o.Kind, c.want) {
			t.Errorf("Check(%v): %v", c.o, e)
		}
	}
	inner := errors.Unwrap(Check(object(api.KPolygon, 0, 0, 9, 0, 9, 9, 9, 5, 4, 9)))
	if !isFault(inner, "ring", 1, api.ErrSimple) {
		t.Errorf("within the Fault of the object: %v", inner)
	}
}

// refusedQueries is queries that may not be, and why.
func refusedQueries() []struct {
	q    api.Query
	want api.Errno
} {
	return []struct {
		q    api.Query
		want api.Errno
	}{
		{api.Query{}, api.ErrKind},
		{api.Query{Kind: 5}, api.ErrKind},
		{api.Query{Kind: math.MinInt}, api.ErrKind},
		{api.Query{Kind: api.QMeets, Box: boxOf(1, 0, 0, 0)}, api.ErrArg},
		{api.Query{Kind: api.QMeets, Box: boxOf(0, 0, 0, far+1)}, api.ErrRange},
		{api.Query{Kind: api.QInside, Box: boxOf(0, 1, 0, 0)}, api.ErrArg},
		{api.Query{Kind: api.QInside, Box: boxOf(-far-1, 1, 0, 0)}, api.ErrRange},
		{api.Query{Kind: api.QHas, Box: boxOf(0, math.MaxInt, 0, 0)}, api.ErrRange},
		{api.Query{Kind: api.QCross}, api.ErrVerts},
		{api.Query{Kind: api.QCross, Ring: object(0, 0, 0, 4, 4, 4, 0, 0, 4).Points}, api.ErrSimple},
		{api.Query{Kind: api.QCross, Ring: object(0, 0, 0, 4, 4, 4, -far-1).Points}, api.ErrRange},
	}
}

func TestP6_1CheckQuery(t *testing.T) {
	good := []api.Query{
		{Kind: api.QMeets, Ring: make([]api.Point, 99)},
		{Kind: api.QInside, Box: boxOf(-far, -far, far, far)},
		{Kind: api.QHas, Box: boxOf(5, 5, -math.MaxInt, 0)},
		{Kind: api.QCross, Box: boxOf(9, 9, 0, far+1), Ring: object(0, 0, 0, 1, 0, 0, 1).Points},
	}
	for _, q := range good {
		if e := CheckQuery(q); e != nil {
			t.Errorf("CheckQuery(%v): %v", q, e)
		}
	}
	for _, c := range refusedQueries() {
		if e := CheckQuery(c.q); !isFault(e, "query", c.q.Kind, c.want) {
			t.Errorf("CheckQuery(%v): %v", c.q, e)
		}
	}
}

func TestRefusedIsNotAsked(t *testing.T) {
	good, q := object(api.KBox, -9, -9, 9, 9), api.Query{Kind: api.QMeets, Box: boxOf(-far, -far, far, far)}
	for _, c := range refusedObjects() {
		if b, e := Bounds(c.o); b != (api.Box{}) || !isFault(e, "object", c.o.Kind, c.want) {
			t.Errorf("Bounds(%v) = %v, %v", c.o, b, e)
		}
		if Match(c.o, q) || Dist(c.o, at(0, 0)) != (api.Dist{}) || Touch(c.o, good) || Touch(good, c.o) || Rings(c.o.Points, object(0, 0, 0, 9, 0, 0, 9).Points) && c.o.Kind == api.KPolygon {
			t.Errorf("%v is asked", c.o)
		}
	}
	for _, c := range refusedQueries() {
		if Match(good, c.q) {
			t.Errorf("%v is asked", c.q)
		}
	}
	for _, p := range []api.Point{at(far+1, 0), at(0, math.MinInt)} {
		if Dist(good, p) != (api.Dist{}) {
			t.Errorf("Dist to %v", p)
		}
	}
}

// has tells whether p is in o's point set.
func has(o api.Object, p api.Point) bool {
	a, b := o.Points[0], o.Points[len(o.Points)-1]
	switch o.Kind {
	case api.KPoint:
		return p == a
	case api.KInterval:
		return p.Y == 0 && a.X <= p.X && p.X <= a.Y
	case api.KBox:
		return plane.Has(api.Box{Lo: a, Hi: b}, p)
	}
	return ring.Has(o.Points, p)
}

// outline is the corners and edges of o's point set.
func outline(o api.Object) []api.Point {
	a, b := o.Points[0], o.Points[len(o.Points)-1]
	switch o.Kind {
	case api.KInterval:
		return []api.Point{at(a.X, 0), at(a.Y, 0)}
	case api.KBox:
		return []api.Point{a, at(b.X, a.Y), b, at(a.X, b.Y)}
	}
	return o.Points
}

// touches goes by the words: a corner of one in the other, or edges that meet.
func touches(a, b api.Object) bool {
	k, l := outline(a), outline(b)
	for i, p := range k {
		for j, q := range l {
			if has(a, q) || has(b, p) || segm.Meet(p, k[(i+1)%len(k)], q, l[(j+1)%len(l)]) {
				return true
			}
		}
	}
	return false
}

// someObjects is small ones by chance, of all kinds.
func someObjects(count int) []api.Object {
	r := rand.New(rand.NewSource(6))
	l := []api.Object{}
	for len(l) < count {
		x, y, w, h := r.Intn(8)-2, r.Intn(8)-2, r.Intn(4), r.Intn(4)
		o := object(1+r.Intn(4), x, y)
		switch o.Kind {
		case api.KInterval:
			o = object(api.KInterval, x, x+w)
		case api.KBox:
			o = object(api.KBox, x, y, x+w, y+h)
		case api.KPolygon:
			for range 2 + r.Intn(4) {
				o.Points = append(o.Points, at(r.Intn(8)-2, r.Intn(8)-2))
			}
		}
		if Check(o) == nil {
			l = append(l, o)
		}
	}
	return l
}

func TestP6_2Bounds(t *testing.T) {
	for _, o := range append(someObjects(300), goodObjects()...) {
		want := plane.Around(outline(o))
		if b, e := Bounds(o); e != nil || b != want {
			t.Errorf("Bounds(%v) = %v, %v", o, b, e)
		}
	}
}

func TestP6_2MatchAndTouch(t *testing.T) {
	l := append(someObjects(350), goodObjects()...)
	for _, o := range l {
		for _, n := range l {
			want := touches(o, n)
			if Touch(o, n) != want || Touch(n, o) != want {
				t.Fatalf("Touch(%v, %v) is not %v", o, n, want)
			}
			b, _ := Bounds(n)
			asBox := object(api.KBox, b.Lo.X, b.Lo.Y, b.Hi.X, b.Hi.Y)
			meets, inside := Match(o, api.Query{Kind: api.QMeets, Box: b}), Match(o, api.Query{Kind: api.QInside, Box: b})
			own, _ := Bounds(o)
			if meets != touches(o, asBox) || inside != plane.Inside(own, b) || inside && !meets {
				t.Fatalf("Match(%v, %v) = %v, %v", o, b, meets, inside)
			}
			if n.Kind == api.KPolygon {
				if Match(o, api.Query{Kind: api.QCross, Ring: n.Points}) != want {
					t.Fatalf("Match(%v, %v) is not %v", o, n, want)
				}
				if o.Kind == api.KPolygon && Rings(o.Points, n.Points) != want {
					t.Fatalf("Rings(%v, %v) is not %v", o, n, want)
				}
			}
		}
	}
	if !Match(object(api.KPolygon, 0, 0, 4, 0, 0, 4), api.Query{Kind: api.QHas, Box: boxOf(1, 1, 0, 0)}) {
		t.Error("the example")
	}
	if Rings(object(0, 0, 0, 1, 0, 0, 1).Points, nil) || Rings(nil, nil) {
		t.Error("Rings of none")
	}
}

func TestP6_3Dist(t *testing.T) {
	for _, o := range append(someObjects(200), goodObjects()...) {
		corners := outline(o)
		for i := range 100 {
			p := at(i%10-3, i/10-3)
			want := ratio.Of(0)
			if !has(o, p) {
				want = segm.Dist(corners[0], corners[len(corners)-1], p)
				for j := range corners[1:] {
					want = ratio.Min(want, segm.Dist(corners[j], corners[j+1], p))
				}
			}
			if Dist(o, p) != want {
				t.Fatalf("Dist(%v, %v) = %v, not %v", o, p, Dist(o, p), want)
			}
			if hit := Match(o, api.Query{Kind: api.QHas, Box: api.Box{Lo: p}}); hit != has(o, p) || hit != (want == ratio.Of(0)) {
				t.Fatalf("P6.4: QHas %v of %v: %v", p, o, hit)
			}
		}
	}
	if got := Dist(object(api.KPolygon, 0, 0, 1, 1, 0, 9), at(1, 0)); got != (api.Dist{Lo: 1, Den: 2}) {
		t.Errorf("in lowest terms: %v", got)
	}
	if got := Dist(object(api.KPoint, -far, -far), at(far, far)); got != (api.Dist{Lo: 8 * far * far, Den: 1}) {
		t.Errorf("far: %v", got)
	}
}

func TestP6_3Same(t *testing.T) {
	a := object(api.KBox, 0, 0, 1, 1)
	for _, b := range []api.Object{object(api.KPolygon, 0, 0, 1, 1), object(api.KBox, 1, 1, 0, 0), object(api.KBox, 0, 0), object(api.KBox, 0, 0, 1, 2), {}} {
		if Same(a, b) || Same(b, a) || !Same(b, Clone(b)) {
			t.Errorf("Same(%v, %v)", a, b)
		}
	}
	if !Same(api.Object{Kind: 9, Points: []api.Point{}}, api.Object{Kind: 9}) {
		t.Error("nil and empty are the same")
	}
}

func TestP6_4NothingIsChanged(t *testing.T) {
	room := make([]api.Point, 8)
	copy(room, object(0, 0, 0, 4, 0, 0, 4).Points)
	o := api.Object{Kind: api.KPolygon, Points: room[:3]}
	q := api.Query{Kind: api.QCross, Ring: room[:3]}
	Check(o)
	CheckQuery(q)
	Bounds(o)
	if !Match(o, q) || !Touch(o, o) || !Rings(room[:3], room[:3]) || Dist(o, at(9, 9)) == (api.Dist{}) {
		t.Error("a triangle meets itself")
	}
	c := Clone(o)
	c.Points[0].X = 77
	want := []api.Point{at(0, 0), at(4, 0), at(0, 4), {}, {}, {}, {}, {}}
	for i, p := range room {
		if p != want[i] {
			t.Errorf("%d: %v", i, p)
		}
	}
}
