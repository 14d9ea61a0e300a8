package opclass

import (
	"bytes"
	"encoding/binary"
	"errors"
	"math"
	"math/rand"
	"slices"
	"testing"

	"pergola/api"
	"pergola/plane"
	"pergola/ratio"
	"pergola/rel"
)

const far = api.MaxCoord

func at(x, y int) api.Point { return api.Point{X: x, Y: y} }

func boxOf(a, b, c, d int) api.Box { return api.Box{Lo: at(a, b), Hi: at(c, d)} }

func object(kind int, v ...int) api.Object {
	o := api.Object{Kind: kind}
	for i := 0; i+1 < len(v); i += 2 {
		o.Points = append(o.Points, at(v[i], v[i+1]))
	}
	return o
}

// isFault tells whether e is a Fault of these that is the error want.
func isFault(e error, op string, id int, want api.Errno) bool {
	var f *api.Fault
	return errors.As(e, &f) && f.Op == op && f.ID == id && errors.Is(e, want)
}

func class(t *testing.T, kind int) Class {
	t.Helper()
	c, e := Boxes(kind)
	if e != nil {
		t.Fatal(e)
	}
	return c
}

var kinds = []int{api.KPoint, api.KInterval, api.KBox, api.KPolygon}

// noKeys is bytes that are no box's.
func noKeys() [][]byte {
	good := Key(boxOf(1, 2, 3, 4))
	return [][]byte{nil, {}, good[:3], append(bytes.Clone(good), 0), Key(boxOf(1, 0, 0, 0)), Key(boxOf(0, 1, 0, 0)), Key(boxOf(0, 0, far+1, 0)),
		Key(boxOf(math.MinInt, 0, 0, 0)), {0x80, 0, 0, 0, 0}, {0, 0, 0, 0x80}, bytes.Repeat([]byte{0xff}, 64)}
}

func TestP16_1Key(t *testing.T) {
	for _, b := range []api.Box{{}, boxOf(-1, 1, 2, 300), boxOf(-far, -far, far, far), boxOf(5, 5, 5, 5)} {
		want := []byte{}
		for _, v := range []int{b.Lo.X, b.Lo.Y, b.Hi.X, b.Hi.Y} {
			want = binary.AppendVarint(want, int64(v))
		}
		key := Key(b)
		got, e := Unkey(key)
		if !bytes.Equal(key, want) || e != nil || got != b || len(key) > api.MaxKey {
			t.Errorf("Key(%v) = %x, Unkey %v, %v", b, key, got, e)
		}
	}
	for _, k := range noKeys() {
		if b, e := Unkey(k); b != (api.Box{}) || !isFault(e, "key", 0, api.ErrBad) {
			t.Errorf("Unkey(%x) = %v, %v", k, b, e)
		}
	}
	if !bytes.Equal(Key(boxOf(math.MinInt, 0, math.MaxInt, -1)), binary.AppendVarint(binary.AppendVarint(append(binary.AppendVarint(nil, math.MinInt64), 0), math.MaxInt64), -1)) {
		t.Error("Key of a box that may not be")
	}
}

func TestP16_2BoxesAndMake(t *testing.T) {
	for _, kind := range []int{0, -1, 5, math.MaxInt} {
		if c, e := Boxes(kind); c != nil || !isFault(e, "class", kind, api.ErrKind) {
			t.Errorf("Boxes(%d): %v", kind, e)
		}
	}
	if key, e := class(t, api.KPoint).Make(object(api.KPoint, 1, 2)); e != nil || !bytes.Equal(key, Key(boxOf(1, 2, 1, 2))) {
		t.Errorf("the example: %x, %v", key, e)
	}
	for _, kind := range kinds {
		for _, o := range someObjects(200) {
			key, e := class(t, kind).Make(o)
			b, _ := rel.Bounds(o)
			if o.Kind == kind && (e != nil || !bytes.Equal(key, Key(b))) || o.Kind != kind && (key != nil || !isFault(e, "class", o.Kind, api.ErrKind)) {
				t.Fatalf("Make(%v) of kind %d: %x, %v", o, kind, key, e)
			}
		}
		for _, o := range []api.Object{{}, object(9, 1, 1), object(api.KPoint), object(api.KBox, 1, 1, 0, 0), object(api.KInterval, far+1, far+1), object(api.KPolygon, 0, 0, 4, 4, 4, 0, 0, 4)} {
			want := api.ErrKind
			if o.Kind == kind {
				errors.As(rel.Check(o), &want)
			}
			if key, e := class(t, kind).Make(o); key != nil || !isFault(e, "class", o.Kind, want) {
				t.Errorf("Make(%v) of kind %d: %x, %v", o, kind, key, e)
			}
		}
	}
}

// someBoxes is boxes by chance, and far ones.
func someBoxes(count int) []api.Box {
	r := rand.New(rand.NewSource(16))
	l := []api.Box{boxOf(-far, -far, far, far), boxOf(far, far, far, far), {}}
	for len(l) < count {
		x, y := r.Intn(20)-10, r.Intn(20)-10
		l = append(l, boxOf(x, y, x+r.Intn(8), y+r.Intn(8)))
	}
	return l
}

func TestP16_2Union(t *testing.T) {
	c := class(t, api.KBox)
	for _, keys := range [][][]byte{nil, {}, noKeys()} {
		if got := c.Union(keys); len(got) != 0 {
			t.Errorf("of none nothing: %x", got)
		}
	}
	l := someBoxes(50)
	for i := range l {
		keys := noKeys()
		for _, b := range l[i:] {
			keys = append(keys, Key(b))
		}
		want, _ := plane.Union(l[i:]...)
		if got := c.Union(keys); !bytes.Equal(got, Key(want)) {
			t.Errorf("Union = %x", got)
		}
	}
}

func TestP16_2Consistent(t *testing.T) {
	c := class(t, api.KPolygon)
	triangle := object(0, 2, 2, 9, 2, 2, 9).Points
	for _, b := range someBoxes(60) {
		for _, n := range someBoxes(60) {
			for _, kind := range []int{api.QMeets, api.QInside} {
				if c.Consistent(Key(b), api.Query{Kind: kind, Box: n}) != plane.Meets(b, n) {
					t.Fatalf("%d: %v, %v", kind, b, n)
				}
			}
			if c.Consistent(Key(b), api.Query{Kind: api.QHas, Box: api.Box{Lo: n.Lo, Hi: at(math.MinInt, 0)}}) != plane.Has(b, n.Lo) {
				t.Fatalf("QHas: %v, %v", b, n.Lo)
			}
		}
		if c.Consistent(Key(b), api.Query{Kind: api.QCross, Ring: triangle, Box: b}) != plane.Meets(b, boxOf(2, 2, 9, 9)) {
			t.Fatalf("QCross: %v", b)
		}
	}
	all := boxOf(-far, -far, far, far)
	for _, q := range []api.Query{{}, {Kind: 5, Box: all}, {Kind: api.QMeets, Box: boxOf(1, 0, 0, 0)}, {Kind: api.QHas, Box: boxOf(far+1, 0, 0, 0)}, {Kind: api.QCross, Ring: triangle[:2]}} {
		if c.Consistent(Key(all), q) {
			t.Errorf("%v is refused", q)
		}
	}
	for _, k := range noKeys() {
		if c.Consistent(k, api.Query{Kind: api.QMeets, Box: all}) || c.Dist(k, at(0, 0)) != (api.Dist{}) || c.Penalty(k, Key(all)) != 0 || c.Penalty(Key(all), k) != 0 {
			t.Errorf("%x is no key", k)
		}
	}
}

func TestP16_2PenaltyAndDist(t *testing.T) {
	c := class(t, api.KInterval)
	for _, b := range someBoxes(60) {
		for _, n := range someBoxes(60) {
			if got, want := c.Penalty(Key(b), Key(n)), plane.Grow(b, n); want.Hi != 0 || got != int(want.Lo) || got < 0 {
				t.Fatalf("Penalty(%v, %v) = %d", b, n, got)
			}
			if c.Dist(Key(b), n.Lo) != plane.Dist(b, n.Lo) {
				t.Fatalf("Dist(%v, %v)", b, n.Lo)
			}
		}
	}
	side := 2 * far
	if got := c.Penalty(Key(boxOf(-far, -far, -far, -far)), Key(boxOf(far, far, far, far))); got != side*side {
		t.Errorf("the greatest: %d", got)
	}
	if c.Dist(Key(api.Box{}), at(far+1, 0)) != (api.Dist{}) {
		t.Error("Dist of a point that may not be")
	}
}

func TestP16_2Split(t *testing.T) {
	c := class(t, api.KPoint)
	r := rand.New(rand.NewSource(17))
	for n := range 40 {
		keys, sums := [][]byte{}, [][3]int{}
		for i := range n {
			b := boxOf(r.Intn(3), r.Intn(3), 3+r.Intn(3), 3+r.Intn(3))
			key := Key(b)
			if r.Intn(4) == 0 {
				b, key = api.Box{}, noKeys()[r.Intn(8)]
			}
			keys = append(keys, key)
			sums = append(sums, [3]int{b.Lo.X + b.Hi.X, b.Lo.Y + b.Hi.Y, i})
		}
		got := c.Split(keys)
		if len(got) != n {
			t.Fatalf("%d answers of %d keys", len(got), n)
		}
		for i, s := range sums {
			greater := 0
			for _, other := range sums {
				if slices.Compare(other[:], s[:]) > 0 {
					greater++
				}
			}
			if got[i] != (greater < n/2) {
				t.Fatalf("Split of %v: %v", sums, got)
			}
		}
	}
}

// someObjects is small ones by chance, of all kinds, and far ones.
func someObjects(count int) []api.Object {
	r := rand.New(rand.NewSource(18))
	l := []api.Object{object(api.KPoint, far, -far), object(api.KInterval, -far, far), object(api.KBox, -far, -far, far, far), object(api.KPolygon, -far, -far, far, -far, 0, far)}
	for len(l) < count {
		x, y, w, h := r.Intn(12)-6, r.Intn(12)-6, r.Intn(4), r.Intn(4)
		o := object(1+r.Intn(4), x, y)
		switch o.Kind {
		case api.KInterval:
			o = object(api.KInterval, x, x+w)
		case api.KBox:
			o = object(api.KBox, x, y, x+w, y+h)
		case api.KPolygon:
			o = object(api.KPolygon, x, y, x+1+w, y, x, y+1+h)
		}
		l = append(l, o)
	}
	return l
}

// asked is queries and points of all kinds, wrong ones too.
func asked() ([]api.Query, []api.Point) {
	q, p := []api.Query{{}, {Kind: api.QMeets, Box: boxOf(1, 0, 0, 0)}}, []api.Point{at(far+1, 0), at(far, far), at(-far, 0)}
	for _, b := range someBoxes(30) {
		p = append(p, b.Lo, b.Hi)
		for kind := range 5 {
			q = append(q, api.Query{Kind: kind, Box: b, Ring: []api.Point{b.Lo, at(b.Lo.X+5, b.Lo.Y), at(b.Lo.X, b.Lo.Y+7)}})
		}
	}
	return q, p
}

func TestP16_4TheFourKeepTheLaws(t *testing.T) {
	q, p := asked()
	l := append(someObjects(200), api.Object{}, object(api.KPoint, far+1, 0))
	for _, kind := range kinds {
		if law, at := Laws(class(t, kind), l, q, p); law != 0 || at != -1 {
			t.Errorf("kind %d: law %d at %d", kind, law, at)
		}
		if law, at := Laws(class(t, kind), nil, nil, nil); law != 0 || at != -1 {
			t.Errorf("kind %d of nothing: law %d at %d", kind, law, at)
		}
	}
}

func TestP16_3Covers(t *testing.T) {
	c := class(t, api.KBox)
	q, p := []api.Query{{Kind: api.QMeets, Box: boxOf(2, 2, 3, 3)}}, []api.Point{at(10, 0)}
	in, out := Key(boxOf(0, 0, 4, 4)), Key(boxOf(0, 0, 1, 1))
	l := []api.Object{object(api.KBox, 0, 0, 4, 4)}
	cases := []struct {
		key  []byte
		l    []api.Object
		q    []api.Query
		p    []api.Point
		want bool
	}{
		{in, l, q, p, true},
		{out, l, q, nil, false},
		{out, l, nil, p, false}, // 81 is above 36
		{out, l, nil, nil, true},
		{out, nil, q, p, true},
		{out, l, []api.Query{{}, {Kind: api.QMeets, Box: boxOf(3, 3, 2, 2)}, {Kind: api.QHas, Box: boxOf(9, 9, 0, 0)}}, []api.Point{at(far+1, 0), at(-5, 0)}, true},
		{out, []api.Object{object(api.KBox, 4, 4, 0, 0), object(7, 1)}, q, p, true},
		{nil, l, nil, p, false}, // its Dist may not be
		{in, append([]api.Object{object(api.KPoint, 0, 0)}, l...), q, p, true},
	}
	for i, x := range cases {
		if Covers(c, x.key, x.l, x.q, x.p) != x.want {
			t.Errorf("%d: Covers is not %v", i, x.want)
		}
	}
	if Covers(nil, in, nil, nil, nil) || Covers(nil, in, l, q, p) {
		t.Error("a nil class")
	}
}

// broken is a class of all objects that breaks the laws as it is told.
type broken struct {
	Class
	make  func(o api.Object, key []byte) ([]byte, error)
	cons  func(key []byte, q api.Query) bool
	union func(key []byte) []byte
	split []bool
	dist  func(d api.Dist) api.Dist
}

func (b broken) Make(o api.Object) ([]byte, error) {
	box, _ := rel.Bounds(o)
	return b.make(o, Key(box))
}
func (b broken) Union(keys [][]byte) []byte { return b.union(b.Class.Union(keys)) }
func (b broken) Consistent(key []byte, q api.Query) bool {
	return b.cons(key, q) && b.Class.Consistent(key, q)
}
func (b broken) Split(keys [][]byte) []bool {
	if b.split != nil {
		return b.split
	}
	return b.Class.Split(keys)
}
func (b broken) Dist(key []byte, p api.Point) api.Dist { return b.dist(b.Class.Dist(key, p)) }

func TestP16_3Laws(t *testing.T) {
	good := func() broken {
		return broken{
			Class: class(t, api.KBox),
			make:  func(o api.Object, key []byte) ([]byte, error) { return key, nil },
			cons:  func([]byte, api.Query) bool { return true },
			union: func(key []byte) []byte { return key },
			dist:  func(d api.Dist) api.Dist { return d },
		}
	}
	l := []api.Object{{}, object(api.KPoint, 1, 1), object(api.KBox, 2, 2, 3, 3), object(api.KPoint, far+1, 0), object(api.KInterval, 0, 9)}
	q, p := asked()
	long := func(n int) func(o api.Object, key []byte) ([]byte, error) {
		return func(o api.Object, key []byte) ([]byte, error) {
			if o.Kind == api.KBox {
				return make([]byte, n), nil
			}
			return key, nil
		}
	}
	cases := []struct {
		what    string
		spoil   func(b *broken)
		law, at int
	}{
		{"none", func(b *broken) {}, 0, -1},
		{"long keys", func(b *broken) { b.make = long(65) }, 1, 2},
		{"a key of 64 bytes that finds nothing", func(b *broken) { b.make = long(64) }, 2, 2},
		{"long keys go ahead of all", func(b *broken) { b.make, b.cons = long(65), func([]byte, api.Query) bool { return false } }, 1, 2},
		{"it never finds", func(b *broken) { b.cons = func([]byte, api.Query) bool { return false } }, 2, 1},
		{"boxes are not found", func(b *broken) {
			b.cons = func(key []byte, q api.Query) bool { return !bytes.Equal(key, Key(boxOf(2, 2, 3, 3))) }
		}, 2, 2},
		{"too far", func(b *broken) { b.dist = func(d api.Dist) api.Dist { d.Lo++; return d } }, 3, 1},
		{"no distance", func(b *broken) { b.dist = func(d api.Dist) api.Dist { return api.Dist{} } }, 3, 1},
		{"the same distance, not in lowest terms", func(b *broken) { b.dist = func(d api.Dist) api.Dist { return api.Dist{Lo: 2 * d.Lo, Den: 2} } }, 0, -1},
		{"long unions", func(b *broken) { b.union = func(key []byte) []byte { return append(key, make([]byte, 60)...) } }, 4, 0},
		{"unions that forget", func(b *broken) { b.union = func([]byte) []byte { return Key(boxOf(2, 2, 3, 3)) } }, 4, 0},
		{"splits with one side", func(b *broken) { b.split = make([]bool, 3) }, 5, 0},
		{"likewise", func(b *broken) { b.split = []bool{true, true, true} }, 5, 0},
		{"splits of too few", func(b *broken) { b.split = []bool{true, false} }, 5, 0},
		{"splits of too many", func(b *broken) { b.split = []bool{true, false, true, true} }, 5, 0},
		{"it takes one kind alone, and none needs a split", func(b *broken) {
			b.split = make([]bool, 9)
			b.make = func(o api.Object, key []byte) ([]byte, error) {
				if o.Kind != api.KInterval {
					return key, api.ErrKind
				}
				return key, nil
			}
		}, 0, -1},
		{"it takes nothing", func(b *broken) {
			b.split, b.union = nil, func([]byte) []byte { return make([]byte, 99) }
			b.make = func(o api.Object, key []byte) ([]byte, error) { return make([]byte, 99), api.ErrKind }
		}, 0, -1},
		{"Make panics", func(b *broken) { b.make = nil }, 0, -1},
		{"Consistent panics", func(b *broken) { b.cons = nil }, 2, 1},
		{"Dist panics", func(b *broken) { b.dist = nil }, 3, 1},
		{"Union panics", func(b *broken) { b.union = nil }, 4, 0},
	}
	for _, c := range cases {
		b := good()
		c.spoil(&b)
		if law, at := Laws(b, l, q, p); law != c.law || at != c.at {
			t.Errorf("%s: law %d at %d", c.what, law, at)
		}
	}
	if law, at := Laws(nil, l, q, p); law != 1 || at != 0 {
		t.Errorf("a nil class: law %d at %d", law, at)
	}
	var none *broken
	if law, at := Laws(none, l, q, p); law != 0 || at != -1 {
		t.Errorf("a class that is a nil pointer takes nothing: law %d at %d", law, at)
	}
}

func TestP16_3QueriesGoAheadOfPoints(t *testing.T) {
	b := broken{
		Class: class(t, api.KBox),
		make:  func(o api.Object, key []byte) ([]byte, error) { return key, nil },
		cons:  func(key []byte, q api.Query) bool { return !bytes.Equal(key, Key(boxOf(2, 2, 3, 3))) },
		union: func(key []byte) []byte { return key },
		dist:  func(d api.Dist) api.Dist { return api.Dist{} },
	}
	q, p := asked()
	boxed, point := object(api.KBox, 2, 2, 3, 3), object(api.KPoint, 1, 1)
	if law, at := Laws(b, []api.Object{boxed, point}, q, p); law != 2 || at != 0 {
		t.Errorf("one object breaks both: law %d at %d", law, at)
	}
	if law, at := Laws(b, []api.Object{point, boxed}, q, p); law != 3 || at != 0 {
		t.Errorf("the first object decides: law %d at %d", law, at)
	}
	if ratio.Sound(b.Dist(nil, at0)) {
		t.Error("Dist is spoilt")
	}
}

var at0 = at(0, 0)
