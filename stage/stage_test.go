package stage

import (
	"errors"
	"math"
	"math/rand"
	"slices"
	"testing"

	"pergola/api"
	"pergola/model"
	"pergola/rel"
)

// isFault tells whether e is a stage's Fault with an ID that is the error want.
func isFault(e error, id int, want api.Errno) bool {
	var f *api.Fault
	return errors.As(e, &f) && f.Op == "stage" && f.ID == id && errors.Is(e, want)
}

func point(x int) api.Object {
	return api.Object{Kind: api.KPoint, Points: []api.Point{{X: x, Y: 0}}}
}

// base is a map of the points 1 to n.
func base(t *testing.T, n int) *model.M {
	t.Helper()
	m := model.New()
	for id := 1; id <= n; id++ {
		if e := m.Apply(put(id, point(id))); e != nil {
			t.Fatal(e)
		}
	}
	return m
}

func same(a, b []api.Change) bool {
	return slices.EqualFunc(a, b, func(x, y api.Change) bool {
		return x.Kind == y.Kind && x.Item.ID == y.Item.ID && rel.Same(x.Item.Obj, y.Item.Obj)
	})
}

var everything = api.Query{Kind: api.QMeets, Box: api.Box{Lo: api.Point{X: -api.MaxCoord, Y: -api.MaxCoord}, Hi: api.Point{X: api.MaxCoord, Y: api.MaxCoord}}}

func TestP24_1Refused(t *testing.T) {
	s := New(base(t, 2))
	cases := []struct {
		e    error
		id   int
		want api.Errno
	}{
		{s.Put(1, point(0)), 1, api.ErrDup},
		{s.Put(-1, point(0)), -1, api.ErrArg},
		{s.Put(1, api.Object{}), 1, api.ErrKind},
		{s.Put(7, point(math.MaxInt)), 7, api.ErrRange},
		{s.Del(9), 9, api.ErrAbsent},
		{s.Del(api.MaxID + 1), api.MaxID + 1, api.ErrArg},
	}
	for i, c := range cases {
		if !isFault(c.e, c.id, c.want) {
			t.Errorf("%d: %v", i, c.e)
		}
	}
	var f *api.Fault
	if e := errors.Unwrap(s.Del(9)); !errors.As(e, &f) || f.Op != "model" {
		t.Errorf("it wraps the model's: %v", e)
	}
	if len(s.Changes()) != 0 || len(s.Net()) != 0 || s.Len() != 2 {
		t.Error("what is refused is no change")
	}
	for i := range 16 {
		s.Del(1)
		s.Put(1, point(100+i))
	}
	if len(s.Changes()) != 32 || !isFault(s.Put(-5, point(1)), -5, api.ErrMany) || !isFault(s.Del(1), 1, api.ErrMany) || s.Len() != 2 {
		t.Error("32 changes, not more")
	}
	if s.End() != nil || !isFault(s.End(), 0, api.ErrTx) || !isFault(s.Put(1, point(1)), 1, api.ErrTx) || !isFault(s.Del(4), 4, api.ErrTx) {
		t.Error("it is ended")
	}
	o, ok := s.Get(1)
	if !ok || o.Points[0].X != 115 || s.Len() != 2 || len(s.Changes()) != 32 || len(s.Net()) != 2 || len(s.Search(everything)) != 2 {
		t.Error("it still tells")
	}
}

func TestP24_2Net(t *testing.T) {
	cases := []struct{ done, net []api.Change }{
		{nil, nil},
		{[]api.Change{put(9, point(1)), del(9)}, nil},
		{[]api.Change{del(1), put(1, point(1))}, nil},
		{[]api.Change{del(1), put(1, point(5))}, []api.Change{del(1), put(1, point(5))}},
		{[]api.Change{put(9, point(1)), del(2), put(0, point(3)), del(1)}, []api.Change{put(0, point(3)), del(1), del(2), put(9, point(1))}},
		{[]api.Change{del(1), put(1, point(5)), del(1)}, []api.Change{del(1)}},
		{[]api.Change{put(9, point(1)), del(9), put(9, point(2))}, []api.Change{put(9, point(2))}},
	}
	for i, c := range cases {
		s := New(base(t, 2))
		for _, d := range c.done {
			e := error(nil)
			if d.Kind == api.ChPut {
				e = s.Put(d.Item.ID, d.Item.Obj)
			} else {
				e = s.Del(d.Item.ID)
			}
			if e != nil {
				t.Fatal(e)
			}
		}
		if !same(s.Net(), c.net) || !same(s.Changes(), c.done) {
			t.Errorf("%d: Net %v, Changes %v", i, s.Net(), s.Changes())
		}
	}
}

func TestByChance(t *testing.T) {
	r := rand.New(rand.NewSource(34))
	for range 300 {
		m := base(t, r.Intn(6))
		was, now := m.Copy(), m.Copy()
		s, done := New(m), []api.Change{}
		m.Apply(put(50, point(50))) // the stage has a copy
		for range r.Intn(45) {
			c, e := del(r.Intn(8)), error(nil)
			if r.Intn(2) == 0 {
				c = put(r.Intn(8), point(r.Intn(3)))
				e = s.Put(c.Item.ID, c.Item.Obj)
				c.Item.Obj = rel.Clone(c.Item.Obj)
			} else {
				e = s.Del(c.Item.ID)
			}
			want := error(api.ErrMany)
			if len(done) < 32 {
				if want = now.Apply(c); want == nil {
					done = append(done, c)
				}
			}
			if (e == nil) != (want == nil) {
				t.Fatalf("%v, not %v", e, want)
			}
		}
		net := s.Net()
		if !same(s.Changes(), done) || len(net) > 32 || was.May(net...) != nil {
			t.Fatalf("Changes %v, Net %v", s.Changes(), net)
		}
		for _, c := range net {
			was.Apply(c)
		}
		if !was.Same(now) || s.Len() != now.Len() || !slices.Equal(s.Search(everything), now.Search(everything)) {
			t.Fatalf("P24.3: Net %v", net)
		}
		for _, i := range now.Items() {
			o, ok := s.Get(i.ID)
			if !ok || !rel.Same(o, i.Obj) {
				t.Fatalf("Get(%d) = %v", i.ID, o)
			}
			o.Points[0].X = -9
		}
		for _, l := range [][]api.Change{net, s.Changes()} { // new memory
			for _, c := range l {
				if c.Kind == api.ChPut {
					c.Item.Obj.Points[0].X = -9
				}
			}
		}
		if !same(s.Changes(), done) || !was.Same(now) {
			t.Fatal("what is answered is new memory")
		}
	}
}

func TestHandedInIsNotKept(t *testing.T) {
	s, o := New(nil), point(4)
	s.Put(1, o)
	o.Points[0].X = 5
	if got, _ := s.Get(1); got.Points[0].X != 4 || s.Changes()[0].Item.Obj.Points[0].X != 4 || s.Net()[0].Item.Obj.Points[0].X != 4 {
		t.Error("what is handed in is not kept")
	}
}

func TestP24_2NilAndZero(t *testing.T) {
	for _, s := range []*Stage{nil, {}} {
		if !isFault(s.Put(3, point(1)), 3, api.ErrTx) || !isFault(s.Del(3), 3, api.ErrTx) || !isFault(s.End(), 0, api.ErrTx) {
			t.Error("it is ended")
		}
		if _, ok := s.Get(3); ok || s.Len() != 0 || len(s.Changes()) != 0 || len(s.Net()) != 0 || len(s.Search(everything)) != 0 {
			t.Error("it has none")
		}
	}
	s := New(nil)
	if s.Len() != 0 || s.Put(1, point(1)) != nil || s.Del(1) != nil || s.End() != nil {
		t.Error("of a nil base: of none")
	}
}
