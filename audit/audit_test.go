package audit

import (
	"math/rand"
	"slices"
	"testing"

	"pergola/api"
	"pergola/model"
	"pergola/replay"
)

const far = api.MaxCoord

func at(x, y int) api.Point { return api.Point{X: x, Y: y} }

func object(kind int, v ...int) api.Object {
	o := api.Object{Kind: kind}
	for i := 0; i+1 < len(v); i += 2 {
		o.Points = append(o.Points, at(v[i], v[i+1]))
	}
	return o
}

func point(x int) api.Object { return object(api.KPoint, x, 0) }

// some is an object by chance; a few may not be.
func some(r *rand.Rand) api.Object {
	x, y, w, h := r.Intn(30), r.Intn(30), r.Intn(4), r.Intn(4)
	o := []api.Object{object(api.KPoint, x, y), object(api.KInterval, x, x+w), object(api.KBox, x, y, x+w, y+h), object(api.KPolygon, x, y, x+1+w, y, x, y+1+h)}[r.Intn(4)]
	if r.Intn(15) == 0 {
		o.Kind = r.Intn(6)
	}
	return o
}

// script is a plain one by chance.
func script(r *rand.Rand, n int) []replay.Op {
	l := []replay.Op{}
	for range n {
		kinds := []int{1, 1, 2, 2, 2, 2, 2, 3, 3, 4, 5, 6, 7, 8, 13, 14, 0, 18, -3}
		a, b := r.Intn(30), r.Intn(30)
		o := replay.Op{Kind: kinds[r.Intn(len(kinds))], ID: r.Intn(20) - 1, N: r.Intn(8) - 1, Obj: some(r), Point: at(a, b)}
		o.Query = api.Query{Kind: r.Intn(5), Box: api.Box{Lo: at(a, b), Hi: at(a+8, b+8)}, Ring: object(0, a, b, a+9, b, a, b+9).Points}
		if r.Intn(10) == 0 {
			o.Point.X = far + 1
		}
		for range r.Intn(5) {
			o.Items = append(o.Items, api.Item{ID: r.Intn(20), Obj: some(r)})
		}
		l = append(l, o)
	}
	return l
}

func TestP28_3WhatRunAnswersPasses(t *testing.T) {
	for seed := range int64(150) {
		r := rand.New(rand.NewSource(seed))
		l := script(r, r.Intn(300))
		a, x := replay.Run(512, 4, l)
		if at, ok := Check(l, a); !ok || at != -1 {
			t.Fatalf("seed %d: op %d, %v: %v", seed, at, l[at], a[at])
		}
		if m := Map(l, a); !m.Same(model.Of(x.Items())) {
			t.Fatalf("seed %d: Map %v, not %v", seed, m.Items(), x.Items())
		}
	}
}

func TestP28_3Full(t *testing.T) {
	l := []replay.Op{}
	for i := range 20 {
		l = append(l, replay.Op{Kind: 1})
		for k := range 32 {
			l = append(l, replay.Op{Kind: 2, ID: i*32 + k, Obj: point(k)})
		}
		l = append(l, replay.Op{Kind: 4}, replay.Op{Kind: 7, Query: api.Query{Kind: api.QHas}})
	}
	heavy := replay.Op{Kind: 13}
	for id := range 480 {
		heavy.Items = append(heavy.Items, api.Item{ID: id, Obj: point(id)})
	}
	for _, l := range [][]replay.Op{l, {heavy, {Kind: 7, Query: api.Query{Kind: api.QHas}}}} {
		a, x := replay.Run(512, 4, l)
		if at, ok := Check(l, a); !ok || at != -1 || !Map(l, a).Same(model.Of(x.Items())) {
			t.Errorf("place %d", at)
		}
		if !slices.ContainsFunc(a, func(a replay.Answer) bool { return a.Code == api.ErrFull }) {
			t.Error("it is not full")
		}
	}
}

// spoilt is an answer with something else in it, of what is asked of its kind.
func spoilt(o replay.Op, a replay.Answer) []replay.Answer {
	code := a
	code.Code = api.ErrPin
	if a.Code != 0 {
		code.Code = 0
	}
	l := []replay.Answer{code}
	switch o.Kind {
	case replay.Get:
		has, obj := a, a
		has.Has = !a.Has
		obj.Obj = object(api.KPoint, 77, 77)
		l = append(l, has, obj)
	case replay.Search:
		more, less := a, a
		more.IDs = append(slices.Clone(a.IDs), 99)
		l = append(l, more)
		if len(a.IDs) > 0 {
			less.IDs = a.IDs[1:]
			l = append(l, less)
		}
	case replay.Nearest:
		more := a
		more.Nears = append(slices.Clone(a.Nears), api.Near{ID: 99})
		l = append(l, more)
		if len(a.Nears) > 0 {
			other := a
			other.Nears = slices.Clone(a.Nears)
			other.Nears[0].Dist.Lo++
			l = append(l, other)
		}
	}
	return l
}

func TestP28_2FindsTheFirst(t *testing.T) {
	for seed := range int64(20) {
		r := rand.New(rand.NewSource(seed))
		l := script(r, 120)
		good, _ := replay.Run(512, 4, l)
		for i := range l {
			for _, wrong := range spoilt(l[i], good[i]) {
				a := slices.Clone(good)
				a[i] = wrong
				if at, ok := Check(l, a); ok || at != i {
					t.Fatalf("seed %d: %v answered %v: %d, %v, not %d", seed, l[i], wrong, at, ok, i)
				}
			}
			a := slices.Clone(good)
			a[i].Ops = []string{"x", "y"} // not asked
			if at, ok := Check(l, a); !ok || at != -1 {
				t.Fatalf("Ops are not asked: %d", at)
			}
		}
	}
}

func TestP28_2WantingAndTooMany(t *testing.T) {
	l := script(rand.New(rand.NewSource(3)), 50)
	a, _ := replay.Run(512, 4, l)
	for i := range l {
		if at, ok := Check(l, a[:i]); ok || at != i {
			t.Errorf("%d answers: %d, %v", i, at, ok)
		}
		if at, ok := Check(l[:i], a); ok || at != i {
			t.Errorf("%d ops: %d, %v", i, at, ok)
		}
	}
	for _, x := range []struct {
		l []replay.Op
		a []replay.Answer
	}{{nil, nil}, {l, a}} {
		if at, ok := Check(x.l, x.a); !ok || at != -1 {
			t.Errorf("%d, %v", at, ok)
		}
	}
	for _, kind := range []int{9, 10, 11, 12, 15, 16, 17} {
		m := append(slices.Clone(l[:7]), replay.Op{Kind: kind})
		b, _ := replay.Run(512, 4, m)
		if at, ok := Check(m, b); ok || at != 7 {
			t.Errorf("kind %d is not plain: %d, %v", kind, at, ok)
		}
	}
	long := script(rand.New(rand.NewSource(4)), 1100)
	b, _ := replay.Run(512, 4, long)
	if at, ok := Check(long, b); !ok || at != -1 {
		t.Errorf("of 1100 ops those ahead are answered alone: %d", at)
	}
	if at, ok := Check(long, b[:999]); ok || at != 999 {
		t.Errorf("999 of 1100: %d", at)
	}
}

func TestP28_2FullIsAllowed(t *testing.T) {
	full, ok := replay.Answer{Code: api.ErrFull}, replay.Answer{}
	put := replay.Op{Kind: 2, ID: 1, Obj: point(1)}
	l := []replay.Op{{Kind: 1}, put, {Kind: 4}, {Kind: 6, ID: 1}, {Kind: 5}, {Kind: 13, Items: []api.Item{{ID: 3, Obj: point(1)}}}, {Kind: 6, ID: 3}}
	a := []replay.Answer{ok, ok, full, ok, {Code: api.ErrTx}, full, ok}
	if at, ok := Check(l, a); !ok || at != -1 || Map(l, a).Len() != 0 {
		t.Errorf("%d, %v", at, Map(l, a).Items())
	}
	for i := range l {
		if l[i].Kind != 4 && l[i].Kind != 13 {
			b := slices.Clone(a)
			b[i] = full
			if at, ok := Check(l, b); ok || at != i {
				t.Errorf("ErrFull of kind %d: %d", l[i].Kind, at)
			}
		}
	}
}

func TestP28_1Map(t *testing.T) {
	ok, no := replay.Answer{}, replay.Answer{Code: api.ErrDup}
	put := func(id int) replay.Op { return replay.Op{Kind: 2, ID: id, Obj: point(id)} }
	begin, commit, abort := replay.Op{Kind: 1}, replay.Op{Kind: 4}, replay.Op{Kind: 5}
	bulk := replay.Op{Kind: 13, Items: []api.Item{{ID: 7, Obj: point(7)}, {ID: 7, Obj: point(8)}, {ID: -1}, {ID: 8, Obj: point(8)}}}
	cases := []struct {
		l    []replay.Op
		a    []replay.Answer
		want []int
	}{
		{nil, nil, nil},
		{[]replay.Op{begin, put(1), put(2), commit}, []replay.Answer{ok, ok, no, ok}, []int{1}},
		{[]replay.Op{begin, put(1), commit}, []replay.Answer{ok, ok}, nil},
		{[]replay.Op{begin, put(1), commit}, []replay.Answer{ok, ok, no}, nil},
		{[]replay.Op{begin, put(1), abort, commit}, []replay.Answer{ok, ok, ok, ok}, nil},
		{[]replay.Op{begin, put(1), abort, commit}, []replay.Answer{ok, ok, no, ok}, []int{1}},
		{[]replay.Op{begin, put(1), begin, put(2), commit}, []replay.Answer{ok, ok, no, ok, ok}, []int{1, 2}},
		{[]replay.Op{begin, put(1), begin, put(2), commit}, []replay.Answer{ok, ok, ok, ok, ok}, []int{2}},
		{[]replay.Op{put(1), commit}, []replay.Answer{ok, ok}, nil},
		{[]replay.Op{begin, put(1), put(1), {Kind: 3, ID: 9}, put(2), commit}, []replay.Answer{ok, ok, ok, ok, ok, ok}, []int{1, 2}},
		{[]replay.Op{bulk}, []replay.Answer{ok}, []int{7, 8}},
		{[]replay.Op{bulk}, []replay.Answer{no}, nil},
		{[]replay.Op{bulk, begin, {Kind: 3, ID: 7}, commit}, []replay.Answer{ok, ok, ok, ok, ok, ok}, []int{8}},
	}
	for i, c := range cases {
		m := Map(c.l, c.a)
		got := []int{}
		for _, x := range m.Items() {
			got = append(got, x.ID)
			if x.Obj.Points[0].X != x.ID {
				t.Errorf("%d: %v", i, x)
			}
		}
		if m == nil || !slices.Equal(got, c.want) {
			t.Errorf("%d: Map %v, not %v", i, got, c.want)
		}
	}
}

func TestNothingIsKept(t *testing.T) {
	l := []replay.Op{{Kind: 1}, {Kind: 2, ID: 1, Obj: point(1)}, {Kind: 4}, {Kind: 13, Items: []api.Item{{ID: 3, Obj: point(1)}}}}
	a := make([]replay.Answer, 4)
	m := Map(l, a)
	l[1].Obj.Points[0].X = 9
	if o, _ := m.Get(1); o.Points[0].X != 1 {
		t.Error("what is handed in is not kept")
	}
}
