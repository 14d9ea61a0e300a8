package gist

import (
	"bytes"
	"errors"
	"math"
	"math/rand"
	"slices"
	"testing"

	"pergola/api"
	"pergola/opclass"
	"pergola/ratio"
	"pergola/rel"
)

const far = api.MaxCoord

func at(x, y int) api.Point { return api.Point{X: x, Y: y} }

func boxOf(a, b, c, d int) api.Box { return api.Box{Lo: at(a, b), Hi: at(c, d)} }

func object(kind int, v ...int) api.Object {
	o := api.Object{Kind: kind}
	for i := 0; i+1 < len(v); i += 2 {
		o.Points = append(o.Points, at(v[i], v[i+1]))
	}
	return o
}

// isFault tells whether e is a Fault of these that is the error want.
func isFault(e error, op string, id int, want api.Errno) bool {
	var f *api.Fault
	return errors.As(e, &f) && f.Op == op && f.ID == id && errors.Is(e, want)
}

// all is a class of all objects; it keeps the laws, but splits and chooses as badly as it may.
type all struct {
	opclass.Class
	mood int
}

func (c *all) Make(o api.Object) ([]byte, error) {
	b, e := rel.Bounds(o)
	if e != nil || o.Kind == api.KInterval && o.Points[0].X == 13 {
		return nil, api.ErrPin
	}
	return append(opclass.Key(b), make([]byte, 44-c.mood)...)[:20], nil
}

// pad is a key of 20 bytes as opclass makes it.
func pad(key []byte) []byte {
	for n := len(key); n >= 4; n-- {
		if _, e := opclass.Unkey(key[:n]); e == nil {
			return key[:n]
		}
	}
	return nil
}

func (c *all) Union(keys [][]byte) []byte {
	l := [][]byte{}
	for _, k := range keys {
		l = append(l, pad(k))
	}
	key := append(c.Class.Union(l), make([]byte, 20)...)[:20]
	if c.mood == 3 { // all there is
		key = append(opclass.Key(boxOf(-far, -far, far, far)), 0, 0)
	}
	return key
}

func (c *all) Consistent(key []byte, q api.Query) bool {
	return c.mood == 2 || c.Class.Consistent(pad(key), q)
}

func (c *all) Penalty(key, add []byte) int {
	switch c.mood {
	case 0:
		return c.Class.Penalty(pad(key), pad(add))
	case 1:
		return -c.Class.Penalty(pad(key), pad(add))
	}
	return math.MinInt
}

func (c *all) Split(keys [][]byte) []bool {
	l := make([]bool, len(keys))
	if c.mood%2 == 0 {
		l[len(l)-1] = true
		return l
	}
	for i := range l {
		l[i] = i > 0
	}
	return l
}

func (c *all) Dist(key []byte, p api.Point) api.Dist {
	if c.mood > 1 {
		return api.Dist{Den: 7}
	}
	return c.Class.Dist(pad(key), p)
}

func newTree(t testing.TB, c opclass.Class, fan int) *Tree {
	t.Helper()
	x, e := New(c, fan)
	if e != nil {
		t.Fatal(e)
	}
	return x
}

func boxes(t testing.TB, kind int) opclass.Class {
	t.Helper()
	c, e := opclass.Boxes(kind)
	if e != nil {
		t.Fatal(e)
	}
	return c
}

// classes is the four of the document, and some of all objects; kind is 0 of these.
func classes(t testing.TB) (l []opclass.Class, kinds []int) {
	for kind := 1; kind <= 4; kind++ {
		l, kinds = append(l, boxes(t, kind)), append(kinds, kind)
	}
	for mood := range 4 {
		l, kinds = append(l, &all{boxes(t, api.KBox), mood}), append(kinds, 0)
	}
	return l, kinds
}

// some is an object by chance, of a kind (of any one, if it is 0); many are near each other, and alike.
func some(r *rand.Rand, kind int) api.Object {
	if kind == 0 {
		kind = 1 + r.Intn(4)
	}
	x, y, w, h := r.Intn(40)-20, r.Intn(40)-20, r.Intn(5), r.Intn(5)
	if r.Intn(10) == 0 {
		x, y = r.Intn(2*far-10)-far, r.Intn(2*far-10)-far
	}
	switch kind {
	case api.KPoint:
		return object(kind, x, y)
	case api.KInterval:
		if x == 13 {
			x++
		}
		return object(kind, x, x+w)
	case api.KBox:
		return object(kind, x, y, x+w, y+h)
	}
	return object(kind, x, y, x+1+w, y, x, y+1+h)
}

func someQuery(r *rand.Rand) api.Query {
	x, y := r.Intn(44)-22, r.Intn(44)-22
	b := boxOf(x, y, x+r.Intn(20), y+r.Intn(20))
	if r.Intn(20) == 0 {
		b = boxOf(-far, -far, far, far)
	}
	return api.Query{Kind: 1 + r.Intn(4), Box: b, Ring: []api.Point{b.Lo, at(b.Lo.X+9, b.Lo.Y), at(b.Lo.X, b.Lo.Y+12)}}
}

// plain is a map by its words.
type plain map[int]api.Object

func (p plain) search(q api.Query) []int {
	l := []int{}
	for id, o := range p {
		if rel.Match(o, q) {
			l = append(l, id)
		}
	}
	slices.Sort(l)
	return l
}

func (p plain) nearest(c api.Point, k int) []api.Near {
	l := []api.Near{}
	for id, o := range p {
		if d := rel.Dist(o, c); ratio.Sound(d) {
			l = append(l, api.Near{ID: id, Dist: d})
		}
	}
	slices.SortFunc(l, func(a, b api.Near) int {
		if ratio.Less(a, b) {
			return -1
		}
		return 1
	})
	return l[:max(0, min(k, len(l)))]
}

// check holds a tree against a map.
func check(t *testing.T, r *rand.Rand, x *Tree, p plain) {
	t.Helper()
	if x.Len() != len(p) || !x.Sound() || x.Len() == 0 && x.Depth() != 0 || x.Len() > 0 && (x.Depth() < 1 || x.Depth() > 12) {
		t.Fatalf("Len %d of %d, Sound %v, Depth %d", x.Len(), len(p), x.Sound(), x.Depth())
	}
	l := x.Items()
	if len(l) != len(p) || !slices.IsSortedFunc(l, func(a, b api.Item) int { return a.ID - b.ID }) {
		t.Fatalf("%d Items of %d", len(l), len(p))
	}
	for _, i := range l {
		if o, ok := x.Get(i.ID); !ok || !rel.Same(o, p[i.ID]) || !rel.Same(o, i.Obj) {
			t.Fatalf("Get(%d) = %v, %v", i.ID, o, ok)
		}
	}
	for range 6 {
		if q := someQuery(r); !slices.Equal(x.Search(q), p.search(q)) {
			t.Fatalf("Search(%v) = %v, not %v", q, x.Search(q), p.search(q))
		}
		c, k := at(r.Intn(50)-25, r.Intn(50)-25), r.Intn(len(p)+3)-1
		if got := x.Nearest(c, k); !slices.Equal(got, p.nearest(c, k)) {
			t.Fatalf("Nearest(%v, %d) = %v, not %v", c, k, got, p.nearest(c, k))
		}
	}
}

func TestByChance(t *testing.T) {
	l, kinds := classes(t)
	for i, c := range l {
		for _, fan := range []int{4, 5, 7, 16} {
			r := rand.New(rand.NewSource(int64(i*100 + fan)))
			x, p := newTree(t, c, fan), plain{}
			for step := range 900 {
				id := r.Intn(250)
				_, there := p[id]
				if grow := step%300 < 200; r.Intn(4) == 0 == grow {
					e := x.Delete(id)
					if there != (e == nil) || !there && !isFault(e, "delete", id, api.ErrAbsent) {
						t.Fatalf("Delete(%d): %v", id, e)
					}
					delete(p, id)
				} else {
					o := some(r, kinds[i])
					e := x.Insert(id, o)
					if there != (e != nil) || there && !isFault(e, "insert", id, api.ErrDup) {
						t.Fatalf("Insert(%d): %v", id, e)
					}
					if !there {
						p[id] = o
					}
				}
				if step%60 == 0 {
					check(t, r, x, p)
				}
			}
			for id := range p {
				x.Delete(id)
				delete(p, id)
				if len(p)%10 == 0 {
					check(t, r, x, p)
				}
			}
		}
	}
}

func TestP17_1New(t *testing.T) {
	c := boxes(t, api.KPoint)
	for _, fan := range []int{3, 17, 0, -1, math.MaxInt, math.MinInt} {
		if x, e := New(c, fan); x != nil || !isFault(e, "new", fan, api.ErrArg) {
			t.Errorf("New(%d): %v", fan, e)
		}
	}
	if x, e := New(nil, 4); x != nil || !isFault(e, "new", 4, api.ErrArg) {
		t.Errorf("New of none: %v", e)
	}
	for fan := 4; fan <= 16; fan++ {
		x := newTree(t, c, fan)
		if x.Len() != 0 || x.Depth() != 0 || !x.Sound() || len(x.Items()) != 0 || len(x.Nearest(at(0, 0), 5)) != 0 {
			t.Errorf("New(%d) is not empty", fan)
		}
	}
}

// refusals is inserts of a tree of points in which 5 is, and why they are refused.
func refusals() []struct {
	id   int
	o    api.Object
	want api.Errno
} {
	point := object(api.KPoint, 1, 1)
	return []struct {
		id   int
		o    api.Object
		want api.Errno
	}{
		{-1, point, api.ErrArg},
		{api.MaxID + 1, api.Object{}, api.ErrArg},
		{math.MinInt, point, api.ErrArg},
		{5, api.Object{}, api.ErrKind},
		{7, object(api.KPoint, far+1, 0), api.ErrRange},
		{5, object(api.KPolygon, 0, 0, 1, 1, 2, 2), api.ErrSimple},
		{5, object(api.KBox, 0, 0, 1, 1), api.ErrKind},
		{5, point, api.ErrDup},
	}
}

func TestP17_1Refused(t *testing.T) {
	x := newTree(t, boxes(t, api.KPoint), 4)
	o := object(api.KPoint, 3, 4)
	if x.Insert(5, o) != nil || x.Insert(0, o) != nil || x.Insert(api.MaxID, o) != nil {
		t.Fatal("Insert")
	}
	for _, c := range refusals() {
		if e := x.Insert(c.id, c.o); !isFault(e, "insert", c.id, c.want) || x.Len() != 3 {
			t.Errorf("Insert(%d, %v): %v", c.id, c.o, e)
		}
	}
	for _, id := range []int{-1, 4, api.MaxID + 1, math.MaxInt} {
		if e := x.Delete(id); !isFault(e, "delete", id, api.ErrAbsent) {
			t.Errorf("Delete(%d): %v", id, e)
		}
		if o, ok := x.Get(id); ok || o.Kind != 0 || o.Points != nil {
			t.Errorf("Get(%d) = %v", id, o)
		}
	}
	c := &all{boxes(t, api.KBox), 0}
	if e := newTree(t, c, 4).Insert(1, object(api.KInterval, 13, 13)); !isFault(e, "insert", 1, api.ErrPin) {
		t.Errorf("Make's error: %v", e)
	}
	o.Points[0].X = 77 // what is handed in is not kept
	got, _ := x.Get(5)
	got.Points[0].X = 88 // what is answered is new memory
	x.Items()[0].Obj.Points[0].X = 99
	for _, i := range x.Items() {
		if i.Obj.Points[0] != at(3, 4) {
			t.Errorf("%v", i)
		}
	}
}

func TestP17_2Edges(t *testing.T) {
	x := newTree(t, boxes(t, api.KPoint), 4)
	x.Insert(1, object(api.KPoint, 0, 0))
	x.Insert(2, object(api.KPoint, 3, 4))
	if got := x.Nearest(at(3, 3), 1); !slices.Equal(got, []api.Near{{ID: 2, Dist: api.Dist{Lo: 1, Den: 1}}}) {
		t.Errorf("the example: %v", got)
	}
	for _, k := range []int{0, -1, math.MinInt} {
		if len(x.Nearest(at(0, 0), k)) != 0 {
			t.Errorf("the nearest %d", k)
		}
	}
	if len(x.Nearest(at(0, 0), math.MaxInt)) != 2 || len(x.Nearest(at(far+1, 0), 2)) != 0 {
		t.Error("Nearest")
	}
	for _, q := range []api.Query{{}, {Kind: 9}, {Kind: api.QMeets, Box: boxOf(1, 0, 0, 0)}, {Kind: api.QCross}} {
		if len(x.Search(q)) != 0 {
			t.Errorf("Search(%v)", q)
		}
	}
}

func TestP17_3Build(t *testing.T) {
	l, kinds := classes(t)
	for i, c := range l {
		for _, n := range []int{0, 1, 2, 4, 5, 6, 17, 33, 300} {
			r := rand.New(rand.NewSource(int64(n)))
			items, p := []api.Item{}, plain{}
			for _, id := range r.Perm(n) {
				p[id] = some(r, kinds[i])
				items = append(items, api.Item{ID: id, Obj: p[id]})
			}
			x := newTree(t, c, 4+n%13)
			if e := x.Build(items); e != nil {
				t.Fatal(e)
			}
			check(t, r, x, p)
			if e := x.Build(items); n > 0 && !isFault(e, "build", 0, api.ErrArg) || n == 0 && e != nil {
				t.Errorf("Build again: %v", e)
			}
			for id := range p { // it is a tree like any other one
				if id%3 > 0 {
					x.Delete(id)
					delete(p, id)
				} else {
					p[id+1000] = some(r, kinds[i])
					x.Insert(id+1000, p[id+1000])
				}
			}
			check(t, r, x, p)
		}
	}
}

func TestP17_3BuildRefused(t *testing.T) {
	for _, c := range refusals() {
		x := newTree(t, boxes(t, api.KPoint), 4)
		l := []api.Item{{ID: 5, Obj: object(api.KPoint, 9, 9)}, {ID: c.id, Obj: c.o}, {ID: -9}}
		if e := x.Build(l); !isFault(e, "build", c.id, c.want) || x.Len() != 0 || x.Depth() != 0 || !x.Sound() {
			t.Errorf("Build with %d, %v: %v", c.id, c.o, e)
		}
		if e := x.Build(l[:1]); e != nil || x.Len() != 1 {
			t.Errorf("behind it: %v", e)
		}
	}
	x := newTree(t, boxes(t, api.KPoint), 4)
	x.Insert(1, object(api.KPoint, 0, 0))
	if e := x.Build([]api.Item{{ID: -1}}); !isFault(e, "build", 0, api.ErrArg) || !isFault(x.Build(nil), "build", 0, api.ErrArg) {
		t.Errorf("a tree that is not empty goes ahead: %v", e)
	}
}

func TestP17_4Depth(t *testing.T) {
	l, kinds := classes(t)
	for i, c := range l {
		for _, fan := range []int{4, 16} {
			r := rand.New(rand.NewSource(19))
			x := newTree(t, c, fan)
			for id := range 4000 {
				x.Insert(id, some(r, kinds[i]))
				if id < 2000 && x.Depth() > 12 {
					t.Fatalf("Depth %d of %d", x.Depth(), x.Len())
				}
			}
			for _, id := range r.Perm(4000)[:2000] {
				x.Delete(id)
			}
			if x.Depth() > 12 || !x.Sound() || x.Len() != 2000 {
				t.Errorf("Depth %d of %d", x.Depth(), x.Len())
			}
			y := newTree(t, c, fan)
			if e := y.Build(x.Items()); e != nil || y.Depth() > 12 || !y.Sound() {
				t.Errorf("Build: %v, Depth %d", e, y.Depth())
			}
		}
	}
	x := newTree(t, boxes(t, api.KPoint), 4)
	for id, want := range []int{1, 1, 1, 1, 2} {
		x.Insert(id, object(api.KPoint, id, 0))
		if x.Depth() != want {
			t.Errorf("Depth %d of %d", x.Depth(), x.Len())
		}
	}
}

// lawless is a class that breaks all laws.
type lawless struct{ r *rand.Rand }

func (c lawless) some() []byte {
	b := make([]byte, c.r.Intn(100))
	c.r.Read(b)
	return b
}
func (c lawless) Make(o api.Object) ([]byte, error)       { return c.some(), nil }
func (c lawless) Union(keys [][]byte) []byte              { return c.some() }
func (c lawless) Consistent(key []byte, q api.Query) bool { return c.r.Intn(2) == 0 }
func (c lawless) Penalty(key, add []byte) int             { return int(c.r.Uint64()) }
func (c lawless) Split(keys [][]byte) []bool              { return make([]bool, c.r.Intn(2*len(keys))) }
func (c lawless) Dist(key []byte, p api.Point) (none api.Dist) {
	return api.Dist{Lo: c.r.Uint64(), Den: uint64(c.r.Intn(2))}
}

func TestLawless(t *testing.T) {
	r := rand.New(rand.NewSource(20))
	x := newTree(t, lawless{r}, 4)
	for range 3000 {
		id := r.Intn(300)
		x.Insert(id, some(r, 0))
		x.Delete(r.Intn(300))
		x.Search(someQuery(r))
		x.Nearest(at(0, 0), r.Intn(20))
	}
	for _, i := range x.Items() {
		if x.Delete(i.ID) != nil {
			t.Errorf("Delete(%d)", i.ID)
		}
	}
	l := []api.Item{}
	for id := range 200 {
		l = append(l, api.Item{ID: id, Obj: some(r, 0)})
	}
	if x.Len() != 0 || x.Depth() != 0 || x.Build(l) != nil || len(x.Nearest(at(0, 0), 999)) != 200 {
		t.Errorf("Len %d", x.Len())
	}
	x.Sound()
}

// shared is a class whose keys all lie in one place.
type shared struct {
	opclass.Class
	room []byte
}

func (c *shared) keep(key []byte) []byte {
	c.room = append(c.room[:0], key...)
	return c.room
}
func (c *shared) Make(o api.Object) ([]byte, error) {
	key, e := c.Class.Make(o)
	return c.keep(key), e
}
func (c *shared) Union(keys [][]byte) []byte { return c.keep(c.Class.Union(keys)) }

func TestKeysAreKeptApart(t *testing.T) {
	r := rand.New(rand.NewSource(21))
	x, p := newTree(t, &shared{Class: boxes(t, api.KBox)}, 4), plain{}
	for id := range 100 {
		p[id] = some(r, api.KBox)
		x.Insert(id, p[id])
	}
	check(t, r, x, p)
	y := newTree(t, &shared{Class: boxes(t, api.KBox)}, 4)
	y.Build(x.Items())
	check(t, r, y, p)
}

// forgets is a class whose unions forget.
type forgets struct{ opclass.Class }

func (c forgets) Union(keys [][]byte) []byte { return bytes.Clone(keys[0]) }

func TestP17_4SoundFinds(t *testing.T) {
	x := newTree(t, forgets{boxes(t, api.KPoint)}, 4)
	for id := range 20 {
		x.Insert(id, object(api.KPoint, id, id))
	}
	if x.Sound() {
		t.Error("keys do not cover what is below")
	}
	y := newTree(t, boxes(t, api.KPoint), 4)
	for id := range 20 {
		y.Insert(id, object(api.KPoint, id, id))
	}
	z := y.root.kids[0].down
	for !z.leaf {
		z = z.kids[0].down
	}
	z.kids = append(z.kids, z.kids[0], z.kids[0], z.kids[0])
	if y.Sound() {
		t.Error("a node is overfull")
	}
}

func TestP17_5NilAndZero(t *testing.T) {
	o := object(api.KPoint, 0, 0)
	for _, x := range []*Tree{nil, {}} {
		if !isFault(x.Insert(3, o), "insert", 3, api.ErrArg) || !isFault(x.Insert(3, api.Object{}), "insert", 3, api.ErrArg) || !isFault(x.Delete(3), "delete", 3, api.ErrAbsent) || !isFault(x.Build(nil), "build", 0, api.ErrArg) {
			t.Error("a nil or zero Tree takes nothing")
		}
		if _, ok := x.Get(3); ok || x.Len() != 0 || x.Depth() != 0 || !x.Sound() || len(x.Items()) != 0 || len(x.Nearest(at(0, 0), 3)) != 0 || len(x.Search(api.Query{Kind: api.QHas})) != 0 {
			t.Error("a nil or zero Tree has nothing")
		}
	}
}
