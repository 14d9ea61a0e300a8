package model

import (
	"errors"
	"math"
	"math/rand"
	"slices"
	"testing"

	"pergola/api"
	"pergola/ratio"
	"pergola/rel"
)

const far = api.MaxCoord

func at(x, y int) api.Point { return api.Point{X: x, Y: y} }

func object(kind int, v ...int) api.Object {
	o := api.Object{Kind: kind}
	for i := 0; i+1 < len(v); i += 2 {
		o.Points = append(o.Points, at(v[i], v[i+1]))
	}
	return o
}

func put(id int, o api.Object) api.Change {
	return api.Change{Kind: api.ChPut, Item: api.Item{ID: id, Obj: o}}
}

func del(id int) api.Change { return api.Change{Kind: api.ChDel, Item: api.Item{ID: id}} }

// isFault tells whether e is a Fault of these that is the error want.
func isFault(e error, op string, id int, want api.Errno) bool {
	var f *api.Fault
	return errors.As(e, &f) && f.Op == op && f.ID == id && errors.Is(e, want)
}

var one = object(api.KPoint, 1, 1)

// with is a map of these.
func with(t *testing.T, l ...api.Change) *M {
	t.Helper()
	m := New()
	for _, c := range l {
		if e := m.Apply(c); e != nil {
			t.Fatal(e)
		}
	}
	return m
}

func TestP23_1Refused(t *testing.T) {
	cases := []struct {
		c    api.Change
		op   string
		want api.Errno
	}{
		{api.Change{}, "change", api.ErrArg},
		{api.Change{Kind: 3, Item: api.Item{ID: 1}}, "change", api.ErrArg},
		{put(-1, one), "change", api.ErrArg},
		{put(api.MaxID+1, one), "change", api.ErrArg},
		{del(math.MinInt), "change", api.ErrArg},
		{api.Change{Kind: api.ChDel, Item: api.Item{ID: 1, Obj: one}}, "change", api.ErrArg},
		{put(1, api.Object{}), "change", api.ErrKind},
		{put(2, object(api.KPoint, far+1, 0)), "change", api.ErrRange},
		{put(1, one), "model", api.ErrDup},
		{del(2), "model", api.ErrAbsent},
	}
	for _, c := range cases {
		m := with(t, put(1, one))
		if e := m.Apply(c.c); !isFault(e, c.op, c.c.Item.ID, c.want) || !m.Same(with(t, put(1, one))) {
			t.Errorf("Apply(%v): %v", c.c, e)
		}
		if e := m.May(put(5, one), c.c, del(99)); !isFault(e, c.op, c.c.Item.ID, c.want) || m.Len() != 1 {
			t.Errorf("May(%v): %v", c.c, e)
		}
	}
}

func TestP23_1May(t *testing.T) {
	m := with(t, put(1, one))
	cases := []struct {
		l    []api.Change
		id   int
		want api.Errno
	}{
		{nil, 0, 0},
		{[]api.Change{del(1), put(1, one), del(1), put(1, one), put(2, one)}, 0, 0},
		{[]api.Change{put(2, one), put(2, one), del(7)}, 2, api.ErrDup},
		{[]api.Change{del(1), del(1), put(1, one)}, 1, api.ErrAbsent},
		{[]api.Change{put(2, one), put(1, one)}, 1, api.ErrDup},
	}
	for _, c := range cases {
		if e := m.May(c.l...); c.want == 0 && e != nil || c.want != 0 && !isFault(e, "model", c.id, c.want) || !m.Same(with(t, put(1, one))) {
			t.Errorf("May(%v): %v", c.l, e)
		}
	}
}

// By chance, against a list of items.
func TestByChance(t *testing.T) {
	r := rand.New(rand.NewSource(33))
	m, l := New(), []api.Item{}
	if r.Intn(2) == 0 {
		m = &M{}
	}
	for range 1500 {
		id := r.Intn(40)
		at0 := slices.IndexFunc(l, func(i api.Item) bool { return i.ID == id })
		if r.Intn(3) == 0 {
			e := m.Apply(del(id))
			if (e == nil) != (at0 >= 0) {
				t.Fatal(e)
			}
			if e == nil {
				l = slices.Delete(l, at0, at0+1)
			}
		} else {
			x, y := r.Intn(20), r.Intn(20)
			o := []api.Object{object(api.KPoint, x, y), object(api.KInterval, x, x+3), object(api.KBox, x, y, x+3, y+3), object(api.KPolygon, x, y, x+5, y, x, y+5)}[r.Intn(4)]
			e := m.Apply(put(id, o))
			if (e == nil) != (at0 < 0) {
				t.Fatal(e)
			}
			if e == nil {
				l = append(l, api.Item{ID: id, Obj: rel.Clone(o)})
				o.Points[0].X = -77 // what is handed in is not kept
			}
		}
		slices.SortFunc(l, func(a, b api.Item) int { return a.ID - b.ID })
		holds(t, r, m, l)
	}
}

// holds holds a map against a list.
func holds(t *testing.T, r *rand.Rand, m *M, l []api.Item) {
	t.Helper()
	items := m.Items()
	if !slices.EqualFunc(items, l, func(a, b api.Item) bool { return a.ID == b.ID && rel.Same(a.Obj, b.Obj) }) || m.Len() != len(l) {
		t.Fatalf("Items %v, not %v", items, l)
	}
	x, y := r.Intn(20), r.Intn(20)
	q := api.Query{Kind: 1 + r.Intn(4), Box: api.Box{Lo: at(x, y), Hi: at(x+6, y+6)}, Ring: object(0, x, y, x+9, y, x, y+9).Points}
	found, near, p := []int{}, []api.Near{}, at(r.Intn(20), r.Intn(20))
	for _, i := range l {
		o, ok := m.Get(i.ID)
		if !ok || !rel.Same(o, i.Obj) {
			t.Fatalf("Get(%d) = %v, %v", i.ID, o, ok)
		}
		o.Points[0].X = 999 // what is answered is new memory
		if rel.Match(i.Obj, q) {
			found = append(found, i.ID)
		}
		near = append(near, api.Near{ID: i.ID, Dist: rel.Dist(i.Obj, p)})
	}
	slices.SortFunc(near, func(a, b api.Near) int {
		if ratio.Less(a, b) {
			return -1
		}
		return 1
	})
	k := r.Intn(len(l) + 3)
	if !slices.Equal(m.Search(q), found) || !slices.Equal(m.Nearest(p, k), near[:min(k, len(near))]) {
		t.Fatalf("Search(%v) = %v, Nearest(%v) = %v", q, m.Search(q), p, m.Nearest(p, k))
	}
	if len(items) > 0 {
		items[0].Obj.Points[0].X = 999
	}
}

func TestP23_2Edges(t *testing.T) {
	m := with(t, put(1, one), put(2, one))
	for _, k := range []int{0, -1, math.MinInt} {
		if len(m.Nearest(at(0, 0), k)) != 0 {
			t.Errorf("the nearest %d", k)
		}
	}
	if len(m.Nearest(at(0, 0), math.MaxInt)) != 2 || len(m.Nearest(at(far+1, 0), 2)) != 0 || len(m.Search(api.Query{})) != 0 {
		t.Error("Nearest, Search")
	}
	if o, ok := m.Get(3); ok || o.Kind != 0 || o.Points != nil {
		t.Error("Get of none")
	}
}

func TestP23_2CopyAndSame(t *testing.T) {
	m := with(t, put(1, one), put(2, object(api.KBox, 0, 0, 1, 1)))
	c := m.Copy()
	if !m.Same(c) || !c.Same(m) || !m.Same(m) {
		t.Error("a copy is the same")
	}
	c.Apply(del(1))
	if m.Len() != 2 || m.Same(c) || c.Same(m) {
		t.Error("a copy is one of its own")
	}
	m.Apply(del(2))
	if m.Same(c) || c.Same(m) {
		t.Error("other ids")
	}
	c = with(t, put(1, object(api.KPoint, 1, 2)))
	if m.Same(c) || !Of(m.Items()).Same(m) {
		t.Error("other objects")
	}
}

func TestP23_2NilAndZero(t *testing.T) {
	var none *M
	for _, c := range []api.Change{put(7, one), put(7, api.Object{}), del(7)} {
		if e := none.Apply(c); !isFault(e, "model", 7, api.ErrArg) || !isFault(none.May(c, put(8, one)), "model", 7, api.ErrArg) {
			t.Error(e)
		}
	}
	if none.May() != nil {
		t.Error("May of none")
	}
	for _, m := range []*M{nil, {}, New(), none.Copy()} {
		if _, ok := m.Get(1); ok || m.Len() != 0 || len(m.Items()) != 0 || len(m.Search(api.Query{Kind: api.QMeets})) != 0 || len(m.Nearest(at(0, 0), 3)) != 0 {
			t.Error("it has none")
		}
		for _, n := range []*M{nil, {}, New()} {
			if !m.Same(n) || m.Same(with(t, put(1, one))) || with(t, put(1, one)).Same(m) {
				t.Error("Same of none and nil")
			}
		}
	}
	zero := M{}
	if zero.Apply(put(1, one)) != nil || zero.Len() != 1 {
		t.Error("a zero one is a new one")
	}
}
