package replay

import (
	"fmt"
	"math"
	"slices"
	"testing"

	"pergola/api"
	"pergola/db"
	"pergola/rel"
)

const far = api.MaxCoord

func at(x, y int) api.Point { return api.Point{X: x, Y: y} }

func point(x, y int) api.Object {
	return api.Object{Kind: api.KPoint, Points: []api.Point{at(x, y)}}
}

func same(a, b Answer) bool {
	return a.Code == b.Code && slices.Equal(a.Ops, b.Ops) && slices.Equal(a.IDs, b.IDs) && slices.Equal(a.Nears, b.Nears) && rel.Same(a.Obj, b.Obj) && a.Has == b.Has
}

// run plays a script on 512 sectors, and holds its answers against those that are wanted.
func run(t *testing.T, l []Op, want []Answer) *db.DB {
	t.Helper()
	got, x := Run(512, 4, l)
	if len(got) != len(want) {
		t.Fatalf("%d answers, not %d", len(got), len(want))
	}
	for i := range got {
		if !same(got[i], want[i]) {
			t.Errorf("op %d, %v: %v, not %v", i, l[i], got[i], want[i])
		}
	}
	return x
}

// refused is an answer of the db's.
func refused(code api.Errno) Answer { return Answer{Code: code, Ops: []string{"db"}} }

func near(id int, square uint64) api.Near {
	return api.Near{ID: id, Dist: api.Dist{Lo: square, Den: 1}}
}

var everything = api.Query{Kind: api.QMeets, Box: api.Box{Lo: at(-far, -far), Hi: at(far, far)}}

func TestP27_1EachKind(t *testing.T) {
	l := []Op{
		{Kind: 1}, {Kind: 1}, {Kind: 2, ID: 5, Obj: point(3, 4)}, {Kind: 2, ID: 5, Obj: point(3, 4)}, {Kind: 2, ID: 2, Obj: point(0, 1)}, {Kind: 3, ID: 9}, {Kind: 4}, {Kind: 4},
		{Kind: 1}, {Kind: 3, ID: 5}, {Kind: 6, ID: 5}, {Kind: 5}, {Kind: 5}, {Kind: 6, ID: 5}, {Kind: 6, ID: 6},
		{Kind: 7, Query: everything}, {Kind: 7}, {Kind: 8, N: 9}, {Kind: 8, N: 1, Point: at(3, 3)}, {Kind: 8, Point: at(far+1, 0)},
		{Kind: 9, Query: everything}, {Kind: 9}, {Kind: 10, Point: at(3, 4)}, {Kind: 10, Point: at(0, far+1)},
		{Kind: 11, ID: 1}, {Kind: 11, ID: 2}, {Kind: 11, ID: 1}, {Kind: 11, ID: 1}, {Kind: 12, ID: 1}, {Kind: 11, ID: 1}, {Kind: 12, ID: 1},
		{Kind: 13, Items: []api.Item{{ID: 1, Obj: point(1, 1)}}}, {Kind: 14}, {Kind: 0}, {Kind: 18}, {Kind: -1}, {Kind: math.MaxInt}, {Kind: 15}, {Kind: 15}, {Kind: 6, ID: 5}, {Kind: 1},
	}
	ok := Answer{}
	run(t, l, []Answer{
		ok, refused(api.ErrTx), ok, refused(api.ErrDup), ok, refused(api.ErrAbsent), ok, refused(api.ErrTx),
		ok, ok, ok, ok, refused(api.ErrTx), {Obj: point(3, 4), Has: true}, ok,
		{IDs: []int{2, 5}}, refused(api.ErrKind), {Nears: []api.Near{near(2, 1), near(5, 25)}}, {Nears: []api.Near{near(5, 1)}}, refused(api.ErrRange),
		{IDs: []int{1}}, refused(api.ErrKind), {IDs: []int{2}}, refused(api.ErrRange),
		{Nears: []api.Near{{ID: 2}}}, {Nears: []api.Near{near(5, 0)}}, {Nears: []api.Near{{ID: 5}}}, refused(api.ErrNone), ok, refused(api.ErrNone), refused(api.ErrNone),
		refused(api.ErrArg), ok, {Code: api.ErrKind}, {Code: api.ErrKind}, {Code: api.ErrKind}, {Code: api.ErrKind}, ok, refused(api.ErrClosed), ok, refused(api.ErrClosed),
	})
}

func TestP27_1One(t *testing.T) {
	for kind := 1; kind <= 15; kind++ {
		want := refused(api.ErrClosed)
		if kind == 6 {
			want = Answer{}
		}
		if got := One(nil, Op{Kind: kind}); !same(got, want) {
			t.Errorf("kind %d of nil: %v", kind, got)
		}
	}
	_, x := Run(512, 4, nil)
	for _, kind := range []int{0, 16, 17, 18, -5} {
		for _, x := range []*db.DB{nil, x} {
			if got := One(x, Op{Kind: kind, N: 0}); !same(got, Answer{Code: api.ErrKind}) {
				t.Errorf("kind %d: %v", kind, got)
			}
		}
	}
	if got := One(x, Op{Kind: 1}); !same(got, Answer{}) || !x.Busy() {
		t.Errorf("Begin: %v", got)
	}
}

func TestP27_2Refused(t *testing.T) {
	cases := []struct {
		sectors, fan int
		want         Answer
	}{
		{0, 4, Answer{Code: api.ErrArg, Ops: []string{"new"}}},
		{8193, 99, Answer{Code: api.ErrArg, Ops: []string{"new"}}},
		{511, 4, refused(api.ErrArg)},
		{512, 3, refused(api.ErrArg)},
		{math.MinInt, math.MinInt, Answer{Code: api.ErrArg, Ops: []string{"new"}}},
	}
	for _, c := range cases {
		for _, l := range [][]Op{nil, {{Kind: 1}, {Kind: 1}}} {
			if got, x := Run(c.sectors, c.fan, l); x != nil || len(got) != 1 || !same(got[0], c.want) {
				t.Errorf("Run(%d, %d): %v", c.sectors, c.fan, got)
			}
		}
	}
	if got, x := Run(512, 4, nil); len(got) != 0 || x == nil {
		t.Errorf("no ops: %v", got)
	}
}

func TestP27_2CutAndCrash(t *testing.T) {
	begin, commit, crash := Op{Kind: 1}, Op{Kind: 4}, Op{Kind: 17, Torn: -1}
	ok := Answer{}
	x := run(t, []Op{
		begin, {Kind: 2, ID: 1, Obj: point(1, 1)}, commit, begin, {Kind: 2, ID: 2, Obj: point(2, 2)}, {Kind: 9, Query: everything},
		crash, {Kind: 7, Query: everything}, {Kind: 11, ID: 1}, begin, {Kind: 2, ID: 3, Obj: point(3, 3)}, {Kind: 16, N: 1}, commit, {Kind: 14}, {Kind: 7, Query: everything},
		crash, {Kind: 7, Query: everything}, begin, {Kind: 2, ID: 3, Obj: point(3, 3)}, {Kind: 16, N: 1}, commit,
		{Kind: 17, Keep: []bool{true}, Torn: -1}, {Kind: 7, Query: everything}, {Kind: 14},
	}, []Answer{
		ok, ok, ok, ok, ok, {IDs: []int{1}},
		ok, {IDs: []int{1}}, refused(api.ErrNone), ok, ok, ok, refused(api.ErrOff), refused(api.ErrOff), {IDs: []int{1}},
		ok, {IDs: []int{1}}, ok, ok, ok, refused(api.ErrOff),
		ok, {IDs: []int{1, 3}}, ok,
	})
	if x.Len() != 2 || x.Dead() || x.Busy() {
		t.Errorf("the DB at the end: %v", x.Items())
	}
}

func TestP27_2ManyOps(t *testing.T) {
	l := make([]Op, 1200)
	for i := range l {
		l[i] = Op{Kind: 1 + 4*(i%2)}
	}
	l[1000] = Op{Kind: 1}
	if got, x := Run(512, 4, l); len(got) != 1000 || x.Busy() {
		t.Errorf("%d answers", len(got))
	}
}

func TestP27_3(t *testing.T) {
	o := Op{Kind: 2, ID: 1, Obj: point(1, 1)}
	l := []Op{{Kind: 1}, o, {Kind: 4}, {Kind: 6, ID: 1}, {Kind: 8, N: 3}}
	first, x := Run(600, 5, l)
	o.Obj.Points[0].X = 9
	first[3].Obj.Points[0].X = 9
	if got, _ := x.Get(1); got.Points[0].X != 1 {
		t.Error("what is handed in is not kept")
	}
	o.Obj.Points[0].X = 1
	first[3].Obj.Points[0].X = 1
	if second, _ := Run(600, 5, l); fmt.Sprint(second) != fmt.Sprint(first) {
		t.Errorf("%v, then %v", first, second)
	}
}
