package index

import (
	"errors"
	"math"
	"math/rand"
	"slices"
	"testing"

	"pergola/api"
	"pergola/fault"
	"pergola/model"
	"pergola/rel"
)

const far = api.MaxCoord

func at(x, y int) api.Point { return api.Point{X: x, Y: y} }

func object(kind int, v ...int) api.Object {
	o := api.Object{Kind: kind}
	for i := 0; i+1 < len(v); i += 2 {
		o.Points = append(o.Points, at(v[i], v[i+1]))
	}
	return o
}

func put(id int, o api.Object) api.Change {
	return api.Change{Kind: api.ChPut, Item: api.Item{ID: id, Obj: o}}
}

func del(id int) api.Change { return api.Change{Kind: api.ChDel, Item: api.Item{ID: id}} }

// isFault tells whether e is an index's Fault with an ID that is the error want.
func isFault(e error, id int, want api.Errno) bool {
	var f *api.Fault
	return errors.As(e, &f) && f.Op == "index" && f.ID == id && errors.Is(e, want)
}

func fresh(t *testing.T, fan int) *Index {
	t.Helper()
	x, e := New(fan)
	if e != nil {
		t.Fatal(e)
	}
	return x
}

func some(r *rand.Rand) api.Object {
	x, y, w, h := r.Intn(30), r.Intn(30), r.Intn(4), r.Intn(4)
	return []api.Object{object(api.KPoint, x, y), object(api.KInterval, x, x+w), object(api.KBox, x, y, x+w, y+h), object(api.KPolygon, x, y, x+1+w, y, x, y+1+h)}[r.Intn(4)]
}

// holds holds an index against the model.
func holds(t *testing.T, r *rand.Rand, x *Index, m *model.M) {
	t.Helper()
	l := x.Items()
	if !slices.EqualFunc(l, m.Items(), func(a, b api.Item) bool { return a.ID == b.ID && rel.Same(a.Obj, b.Obj) }) || x.Len() != m.Len() || !x.Sound() {
		t.Fatalf("Items %v, not %v", l, m.Items())
	}
	for id := range 70 {
		a, there := x.Get(id)
		b, want := m.Get(id)
		if there != want || !rel.Same(a, b) {
			t.Fatalf("Get(%d) = %v, %v", id, a, there)
		}
		if there {
			a.Points[0].X = -5 // new memory
		}
	}
	a, b := r.Intn(30), r.Intn(30)
	q := api.Query{Kind: 1 + r.Intn(4), Box: api.Box{Lo: at(a, b), Hi: at(a+8, b+8)}, Ring: object(0, a, b, a+9, b, a, b+9).Points}
	if !slices.Equal(x.Search(q), m.Search(q)) {
		t.Fatalf("Search(%v) = %v, not %v", q, x.Search(q), m.Search(q))
	}
	for kind := api.KPoint; kind <= api.KPolygon; kind++ {
		want := slices.DeleteFunc(m.Search(q), func(id int) bool {
			o, _ := m.Get(id)
			return o.Kind != kind
		})
		if got, e := x.Of(kind, q); e != nil || !slices.Equal(got, want) {
			t.Fatalf("Of(%d, %v) = %v, %v", kind, q, got, e)
		}
	}
	for _, k := range []int{-1, 0, 1, 5, m.Len(), math.MaxInt} {
		if got := x.Nearest(at(a, b), k); !slices.Equal(got, m.Nearest(at(a, b), k)) {
			t.Fatalf("Nearest(%d) = %v", k, got)
		}
	}
}

func TestP25_3ByChance(t *testing.T) {
	for _, fan := range []int{4, 9, 16} {
		r := rand.New(rand.NewSource(int64(fan)))
		x, m := fresh(t, fan), model.New()
		if fan == 9 {
			l := []api.Item{}
			for _, id := range r.Perm(60) {
				l = append(l, api.Item{ID: id, Obj: some(r)})
			}
			if e := x.Build(l); e != nil {
				t.Fatal(e)
			}
			for _, i := range l {
				m.Apply(put(i.ID, i.Obj))
			}
		}
		for step := range 600 {
			l := []api.Change{}
			for range r.Intn(6) {
				c := put(r.Intn(60), some(r))
				if r.Intn(2) == 0 {
					c = del(r.Intn(60))
				}
				if r.Intn(40) == 0 {
					c.Kind = r.Intn(4)
				}
				if r.Intn(40) == 0 {
					c.Item.ID = -1
				}
				l = append(l, c)
				if e := m.May(l...); e != nil && r.Intn(3) > 0 {
					l = l[:len(l)-1]
				}
			}
			want, got := m.May(l...), x.Apply(l...)
			if fault.Code(got) != fault.Code(want) {
				t.Fatalf("Apply(%v): %v, not %v", l, got, want)
			}
			if f, ok := fault.Outer(want); ok && !isFault(got, f.ID, fault.Code(want)) {
				t.Fatalf("Apply(%v): %v, not %v", l, got, want)
			}
			if want == nil {
				for _, c := range l {
					m.Apply(c)
				}
			}
			if step%7 == 0 {
				holds(t, r, x, m)
			}
		}
	}
}

func TestP25_1New(t *testing.T) {
	for _, fan := range []int{3, 17, -1, math.MinInt} {
		if x, e := New(fan); x != nil || !isFault(e, fan, api.ErrArg) {
			t.Errorf("New(%d): %v", fan, e)
		}
	}
}

func TestP25_1Refused(t *testing.T) {
	x, r := fresh(t, 4), rand.New(rand.NewSource(1))
	o := object(api.KPoint, 1, 1)
	if e := x.Apply(put(1, o), put(2, o), del(2)); e != nil {
		t.Fatal(e)
	}
	m := model.New()
	m.Apply(put(1, o))
	cases := []struct {
		l    []api.Change
		id   int
		want api.Errno
	}{
		{[]api.Change{put(5, o), put(1, object(api.KBox, 0, 0, 1, 1))}, 1, api.ErrDup},
		{[]api.Change{del(1), del(1)}, 1, api.ErrAbsent},
		{[]api.Change{del(1), put(1, o), put(-3, o)}, -3, api.ErrArg},
		{[]api.Change{del(1), put(7, api.Object{Kind: 8})}, 7, api.ErrKind},
		{[]api.Change{{Kind: 9, Item: api.Item{ID: 4}}}, 4, api.ErrArg},
	}
	for _, c := range cases {
		if e := x.Apply(c.l...); !isFault(e, c.id, c.want) {
			t.Errorf("Apply(%v): %v", c.l, e)
		}
		holds(t, r, x, m)
	}
	if x.Apply() != nil {
		t.Error("Apply of none")
	}
	o.Points[0].X = 9 // not kept
	holds(t, r, x, m)
}

func TestP25_1Build(t *testing.T) {
	x := fresh(t, 4)
	o := object(api.KPoint, 1, 1)
	cases := []struct {
		l    []api.Item
		id   int
		want api.Errno
	}{
		{[]api.Item{{ID: 1, Obj: o}, {ID: 1, Obj: object(api.KBox, 0, 0, 1, 1)}}, 1, api.ErrDup},
		{[]api.Item{{ID: 1, Obj: o}, {ID: 3}, {ID: 1, Obj: o}}, 3, api.ErrKind},
		{[]api.Item{{ID: -2, Obj: o}}, -2, api.ErrArg},
	}
	for _, c := range cases {
		if e := x.Build(c.l); !isFault(e, c.id, c.want) || x.Len() != 0 {
			t.Errorf("Build(%v): %v", c.l, e)
		}
	}
	if x.Build(nil) != nil || x.Build([]api.Item{{ID: 4, Obj: o}, {ID: 2, Obj: object(api.KBox, 0, 0, 1, 1)}}) != nil {
		t.Error("Build")
	}
	q := api.Query{Kind: api.QHas, Box: api.Box{Lo: at(1, 1)}}
	if !slices.Equal(x.Search(q), []int{2, 4}) {
		t.Errorf("the example: %v", x.Search(q))
	}
	if e := x.Build(nil); !isFault(e, 0, api.ErrArg) || !isFault(x.Build([]api.Item{{ID: -2}}), 0, api.ErrArg) {
		t.Errorf("it is not empty: %v", e)
	}
}

func TestP25_2NilAndZero(t *testing.T) {
	q := api.Query{Kind: api.QHas}
	for _, x := range []*Index{nil, {}} {
		if !isFault(x.Apply(put(3, object(api.KPoint, 0, 0))), 0, api.ErrArg) || !isFault(x.Apply(), 0, api.ErrArg) || !isFault(x.Build(nil), 0, api.ErrArg) {
			t.Error("it takes nothing")
		}
		if _, ok := x.Get(1); ok || x.Len() != 0 || len(x.Items()) != 0 || len(x.Search(q)) != 0 || len(x.Nearest(at(0, 0), 2)) != 0 || !x.Sound() {
			t.Error("it has none")
		}
		if l, e := x.Of(1, q); l != nil || !isFault(e, 0, api.ErrArg) {
			t.Error(e)
		}
	}
	for _, x := range []*Index{nil, {}, fresh(t, 4)} {
		for _, kind := range []int{0, 5, -1, math.MaxInt} {
			if l, e := x.Of(kind, api.Query{}); l != nil || !isFault(e, kind, api.ErrKind) {
				t.Errorf("Of(%d): %v", kind, e)
			}
		}
	}
	if l, e := fresh(t, 4).Of(1, api.Query{}); e != nil || len(l) != 0 {
		t.Error(e)
	}
}
