package db

import (
	"errors"
	"fmt"
	"math"
	"math/rand"
	"slices"
	"testing"

	"pergola/api"
	"pergola/disk"
	"pergola/fault"
	"pergola/model"
	"pergola/rel"
)

const far = api.MaxCoord

func at(x, y int) api.Point { return api.Point{X: x, Y: y} }

func object(kind int, v ...int) api.Object {
	o := api.Object{Kind: kind}
	for i := 0; i+1 < len(v); i += 2 {
		o.Points = append(o.Points, at(v[i], v[i+1]))
	}
	return o
}

var one = object(api.KPoint, 1, 1)

var everything = api.Query{Kind: api.QMeets, Box: api.Box{Lo: at(-far, -far), Hi: at(far, far)}}

// isFault tells whether e is a DB's Fault with an ID that is the error want.
func isFault(e error, id int, want api.Errno) bool {
	var f *api.Fault
	return errors.As(e, &f) && f.Op == "db" && f.ID == id && errors.Is(e, want)
}

func newDisk(t testing.TB, sectors int) *disk.Disk {
	t.Helper()
	d, e := disk.New(sectors)
	if e != nil {
		t.Fatal(e)
	}
	return d
}

func opened(t testing.TB, d *disk.Disk) *DB {
	t.Helper()
	x, e := Open(d, 4)
	if e != nil {
		t.Fatal(e)
	}
	return x
}

// must stops the test at an error.
func must(t testing.TB, l ...error) {
	t.Helper()
	for _, e := range l {
		if e != nil {
			t.Fatal(e)
		}
	}
}

func put(id int, o api.Object) api.Change {
	return api.Change{Kind: api.ChPut, Item: api.Item{ID: id, Obj: o}}
}

// holds tells whether a DB has what the model has, as far as all answers tell it.
func holds(x *DB, m *model.M) error {
	same := func(a, b api.Item) bool { return a.ID == b.ID && rel.Same(a.Obj, b.Obj) }
	found, e := x.Search(everything)
	near, f := x.Nearest(at(3, 4), m.Len()+1)
	if e != nil || f != nil || x.Len() != m.Len() || !slices.EqualFunc(x.Items(), m.Items(), same) || !slices.Equal(found, m.Search(everything)) || !slices.Equal(near, m.Nearest(at(3, 4), m.Len()+1)) {
		return fmt.Errorf("%v, %v: %v, not %v", e, f, x.Items(), m.Items())
	}
	return nil
}

func TestExample(t *testing.T) {
	d := newDisk(t, 512)
	x := opened(t, d)
	must(t, x.Begin(), x.Put(1, object(api.KBox, 0, 0, 2, 2)), x.Commit(), x.Begin(), x.Put(2, one))
	for _, keep := range [][]bool{nil, {true}} {
		y := opened(t, d.Crash(keep, -1))
		o, ok := y.Get(1)
		if _, two := y.Get(2); !ok || two || !rel.Same(o, object(api.KBox, 0, 0, 2, 2)) {
			t.Errorf("behind a crash: %v, %v", o, ok)
		}
	}
	must(t, x.Abort(), x.Begin())
	if e := x.Put(1, one); !isFault(e, 1, api.ErrDup) {
		t.Errorf("an id that is there: %v", e)
	}
	if got := fault.Chain(x.Put(1, one)); !slices.Equal(got, []string{"db", "stage", "model"}) {
		t.Errorf("it is wrapped by each layer: %v", got)
	}
}

func TestP26_1Open(t *testing.T) {
	junk := newDisk(t, 512)
	must(t, junk.Write(0, slices.Repeat([]byte{7}, 64)))
	off := newDisk(t, 512)
	off.Cut(0)
	cases := []struct {
		d    *disk.Disk
		fan  int
		want api.Errno
	}{
		{nil, 4, api.ErrArg},
		{newDisk(t, 511), 4, api.ErrArg},
		{newDisk(t, 512), 3, api.ErrArg},
		{newDisk(t, 512), 17, api.ErrArg},
		{junk, 4, api.ErrBad},
		{junk, 0, api.ErrArg},
		{off, 4, api.ErrOff},
	}
	for i, c := range cases {
		if x, e := Open(c.d, c.fan); x != nil || !isFault(e, 0, c.want) {
			t.Errorf("%d: %v", i, e)
		}
	}
	if junk.Ops() != 1 {
		t.Error("a fan that may not be goes ahead")
	}
	x := opened(t, newDisk(t, 512))
	if x.Len() != 0 || x.Busy() || x.Dead() || len(x.Items()) != 0 {
		t.Error("noughts are an empty map")
	}
}

// calls is what each call tells, of those that tell errors.
func calls(x *DB) map[string]error {
	_, search := x.Search(everything)
	_, nearest := x.Nearest(at(0, 0), 1)
	c, query := x.Query(everything)
	n, near := x.Near(at(0, 0))
	x.End(c)
	x.End(n)
	_, next := x.Next(77)
	return map[string]error{"search": search, "nearest": nearest, "query": query, "near": near, "next": next, "end": x.End(77), "abort": x.Abort(),
		"begin": x.Begin(), "put": x.Put(77, one), "del": x.Del(77), "commit": x.Commit(), "bulk": x.Bulk(nil), "vacuum": x.Vacuum()}
}

func idOf(call string) int {
	if slices.Contains([]string{"next", "end", "put", "del"}, call) {
		return 77
	}
	return 0
}

func TestP26_1ClosedAndP26_5(t *testing.T) {
	x := opened(t, newDisk(t, 512))
	must(t, x.Begin(), x.Put(1, one), x.Commit(), x.Begin())
	if e := x.Close(); !isFault(e, 0, api.ErrTx) || !x.Busy() {
		t.Error(e)
	}
	must(t, x.Abort(), x.Close())
	for i, y := range []*DB{x, nil, {}} {
		for call, e := range calls(y) {
			if !isFault(e, idOf(call), api.ErrClosed) {
				t.Errorf("%d, %s: %v", i, call, e)
			}
		}
		if _, e := y.Search(api.Query{}); !isFault(e, 0, api.ErrClosed) {
			t.Error(e)
		}
		if _, e := y.Nearest(at(far+1, 0), 1); !isFault(e, 0, api.ErrClosed) {
			t.Error(e)
		}
		if e := y.Close(); !isFault(e, 0, api.ErrClosed) {
			t.Error(e)
		}
		if o, ok := y.Get(1); ok || o.Kind != 0 || y.Len() != 0 || len(y.Items()) != 0 || y.Busy() || y.Dead() != (i > 0) {
			t.Errorf("%d: it has none", i)
		}
	}
}

func TestP26_1Dead(t *testing.T) {
	d := newDisk(t, 512)
	x := opened(t, d)
	must(t, x.Begin(), x.Put(1, one), x.Commit())
	c, e := x.Query(everything)
	must(t, e, x.Begin(), x.Put(2, one))
	d.Cut(0)
	if e := x.Commit(); !isFault(e, 0, api.ErrOff) || x.Busy() || !x.Dead() {
		t.Errorf("Commit: %v", e)
	}
	for call, e := range calls(x) {
		want := map[string]api.Errno{"begin": api.ErrOff, "put": api.ErrOff, "del": api.ErrOff, "commit": api.ErrOff, "bulk": api.ErrOff, "vacuum": api.ErrOff, "abort": api.ErrTx, "next": api.ErrNone, "end": api.ErrNone}[call]
		if want == 0 && e != nil || want != 0 && !isFault(e, idOf(call), want) {
			t.Errorf("%s: %v", call, e)
		}
	}
	if n, e := x.Next(c); e != nil || n.ID != 1 {
		t.Errorf("all others go on: %v, %v", n, e)
	}
	m := model.New()
	m.Apply(put(1, one))
	must(t, holds(x, m), x.Close())
	if !x.Dead() {
		t.Error("it stays dead")
	}
	for _, call := range []func(x *DB) error{(*DB).Vacuum, func(x *DB) error { return x.Bulk([]api.Item{{ID: 1, Obj: one}}) }} {
		d := newDisk(t, 512)
		x := opened(t, d)
		d.Cut(1)
		if e := call(x); !isFault(e, 0, api.ErrOff) || !x.Dead() {
			t.Error(e)
		}
	}
}

func TestP26_2Transactions(t *testing.T) {
	x := opened(t, newDisk(t, 512))
	for i, e := range []error{x.Commit(), x.Abort()} {
		if !isFault(e, 0, api.ErrTx) {
			t.Errorf("%d: %v", i, e)
		}
	}
	if !isFault(x.Put(-5, one), -5, api.ErrTx) || !isFault(x.Del(7), 7, api.ErrTx) {
		t.Error("there is none")
	}
	must(t, x.Begin())
	if !isFault(x.Begin(), 0, api.ErrTx) || !isFault(x.Bulk(nil), 0, api.ErrTx) || !isFault(x.Vacuum(), 0, api.ErrTx) || !x.Busy() {
		t.Error("there is one")
	}
	cases := []struct {
		e    error
		id   int
		want api.Errno
	}{
		{x.Put(-5, one), -5, api.ErrArg},
		{x.Put(5, api.Object{}), 5, api.ErrKind},
		{x.Put(5, object(api.KPoint, far+1, 1)), 5, api.ErrRange},
		{x.Put(5, object(api.KPolygon, 0, 0, 1, 1, 2, 2)), 5, api.ErrSimple},
		{x.Del(5), 5, api.ErrAbsent},
		{x.Del(api.MaxID + 1), api.MaxID + 1, api.ErrArg},
	}
	for i, c := range cases {
		if !isFault(c.e, c.id, c.want) {
			t.Errorf("%d: %v", i, c.e)
		}
	}
	for i := range 32 {
		must(t, x.Put(i, one))
	}
	if e := x.Put(5, one); !isFault(e, 5, api.ErrMany) || x.Len() != 0 || len(x.Items()) != 0 {
		t.Error(e)
	}
	if o, ok := x.Get(31); !ok || !rel.Same(o, one) {
		t.Error("Get is the stage's")
	}
	if l, e := x.Search(everything); e != nil || len(l) != 32 {
		t.Errorf("Search is the stage's: %d", len(l))
	}
	if l, e := x.Nearest(at(0, 0), 5); e != nil || len(l) != 0 {
		t.Errorf("Nearest is the map's: %d", len(l))
	}
	c, e := x.Query(everything)
	must(t, e, x.Commit())
	if _, e := x.Next(c); !isFault(e, c, api.ErrNone) || x.Busy() || x.Len() != 32 {
		t.Errorf("a cursor is of what the map was: %v", e)
	}
	must(t, x.Begin(), x.Del(3), x.Abort(), x.Begin(), x.Commit())
	if _, ok := x.Get(3); !ok || x.Len() != 32 {
		t.Error("Abort: nothing was done")
	}
}

func TestP26_2FullAndTheTransactionIsOver(t *testing.T) {
	x := opened(t, newDisk(t, 512))
	n := 0
	for ; ; n++ {
		must(t, x.Begin())
		for i := range 32 {
			must(t, x.Put(n*32+i, one))
		}
		if e := x.Commit(); e != nil {
			if !isFault(e, 0, api.ErrFull) || x.Busy() || x.Dead() {
				t.Fatal(e)
			}
			break
		}
	}
	if x.Len() != n*32 || n != 8192/20/32 {
		t.Errorf("%d", x.Len())
	}
	must(t, x.Begin(), x.Put(9999, one), x.Commit(), x.Vacuum())
}

func TestP26_2Bulk(t *testing.T) {
	d := newDisk(t, 2000)
	x, m := opened(t, d), model.New()
	l := []api.Item{}
	for i := range 501 {
		l = append(l, api.Item{ID: i, Obj: object(api.KPoint, i, -i)})
	}
	for want, l := range map[api.Errno][]api.Item{api.ErrMany: l, api.ErrDup: {l[1], l[1]}, api.ErrKind: {l[1], {ID: 3}}, api.ErrArg: {{ID: -1, Obj: one}}} {
		if e := x.Bulk(l); !isFault(e, 0, want) || x.Len() != 0 {
			t.Errorf("Bulk: %v", e)
		}
	}
	must(t, x.Bulk(nil), x.Bulk(l[:500]), x.Vacuum())
	for _, i := range l[:500] {
		m.Apply(put(i.ID, i.Obj))
	}
	must(t, holds(x, m), holds(opened(t, d.Crash(nil, -1)), m))
	if e := x.Bulk(nil); !isFault(e, 0, api.ErrArg) {
		t.Errorf("the map is not empty: %v", e)
	}
}

func TestP26_3Refused(t *testing.T) {
	x := opened(t, newDisk(t, 512))
	for busy := range 2 {
		for want, q := range map[api.Errno]api.Query{api.ErrKind: {}, api.ErrRange: {Kind: api.QHas, Box: api.Box{Lo: at(far+1, 0)}}, api.ErrVerts: {Kind: api.QCross}} {
			if l, e := x.Search(q); l != nil || !isFault(e, 0, want) {
				t.Errorf("Search: %v", e)
			}
			if c, e := x.Query(q); c != 0 || !isFault(e, 0, want) {
				t.Errorf("Query: %v", e)
			}
		}
		if l, e := x.Nearest(at(0, math.MinInt), 3); l != nil || !isFault(e, 0, api.ErrRange) {
			t.Errorf("Nearest: %v", e)
		}
		if c, e := x.Near(at(far+1, 0)); c != 0 || !isFault(e, 0, api.ErrRange) {
			t.Errorf("Near: %v", e)
		}
		if busy == 0 {
			must(t, x.Begin())
		}
	}
}

func TestP26_4Cursors(t *testing.T) {
	x := opened(t, newDisk(t, 512))
	must(t, x.Bulk([]api.Item{{ID: 8, Obj: one}, {ID: 3, Obj: object(api.KBox, 0, 0, 2, 2)}, {ID: 5, Obj: object(api.KInterval, 9, 9)}}))
	q, e := x.Query(everything)
	n, f := x.Near(at(9, 0))
	must(t, e, f, x.Begin(), x.Del(8), x.Commit())
	if q != 1 || n != 2 {
		t.Errorf("cursors %d, %d", q, n)
	}
	want := map[int][]api.Near{q: {{ID: 3}, {ID: 5}, {ID: 8}}, n: {{ID: 5, Dist: api.Dist{Den: 1}}, {ID: 3, Dist: api.Dist{Lo: 49, Den: 1}}, {ID: 8, Dist: api.Dist{Lo: 65, Den: 1}}}}
	for k := range 4 {
		for c, l := range want {
			got, e := x.Next(c)
			if k < 3 && (e != nil || got != l[k]) || k == 3 && (!isFault(e, c, api.ErrNone) || got != (api.Near{})) {
				t.Errorf("Next(%d) = %v, %v", c, got, e)
			}
		}
	}
	for _, c := range []int{0, -1, 3, math.MaxInt} {
		if got, e := x.Next(c); got != (api.Near{}) || !isFault(e, c, api.ErrNone) || !isFault(x.End(c), c, api.ErrNone) {
			t.Errorf("cursor %d: %v", c, e)
		}
	}
	must(t, x.End(q))
	if _, e := x.Next(q); !isFault(e, q, api.ErrNone) || !isFault(x.End(q), q, api.ErrNone) {
		t.Errorf("it was ended: %v", e)
	}
	for i := range 15 {
		c, e := x.Near(at(0, 0))
		must(t, e)
		if c != 3+i {
			t.Errorf("the %d-th cursor is %d", 3+i, c)
		}
	}
	if c, e := x.Query(everything); c != 0 || !isFault(e, 0, api.ErrMany) {
		t.Errorf("16 cursors: %v", e)
	}
	if _, e := x.Near(at(far+1, 0)); !isFault(e, 0, api.ErrRange) {
		t.Errorf("scan's error goes ahead: %v", e)
	}
	must(t, x.End(n))
	if c, e := x.Query(everything); c != 18 || e != nil {
		t.Errorf("%d, %v", c, e)
	}
}

// side is a DB, and its map as the model has it.
type side struct {
	x   *DB
	m   *model.M // committed
	now *model.M // with the transaction
}

func some(r *rand.Rand) api.Object {
	x, y, w, h := r.Intn(30), r.Intn(30), r.Intn(4), r.Intn(4)
	return []api.Object{object(api.KPoint, x, y), object(api.KInterval, x, x+w), object(api.KBox, x, y, x+w, y+h), object(api.KPolygon, x, y, x+1+w, y, x, y+1+h)}[r.Intn(4)]
}

// change does one to the DB and to the model, and holds their answers against each other.
func (s *side) change(t *testing.T, r *rand.Rand) {
	t.Helper()
	c, e := put(r.Intn(40)-1, some(r)), error(nil)
	if r.Intn(3) == 0 {
		c = api.Change{Kind: api.ChDel, Item: api.Item{ID: r.Intn(40)}}
		e = s.x.Del(c.Item.ID)
	} else {
		if r.Intn(20) == 0 {
			c.Item.Obj.Kind = r.Intn(6)
		}
		e = s.x.Put(c.Item.ID, c.Item.Obj)
	}
	if fault.Code(e) == api.ErrMany {
		return
	}
	if want := s.now.Apply(c); fault.Code(e) != fault.Code(want) || e != nil && !isFault(e, c.Item.ID, fault.Code(want)) {
		t.Fatalf("%v: %v, not %v", c, e, want)
	}
}

// asks holds the answers within a transaction, or without one, against the model's.
func (s *side) asks(t *testing.T, r *rand.Rand) {
	t.Helper()
	a, b := r.Intn(30), r.Intn(30)
	q := api.Query{Kind: 1 + r.Intn(4), Box: api.Box{Lo: at(a, b), Hi: at(a+8, b+8)}, Ring: object(0, a, b, a+9, b, a, b+9).Points}
	found, e := s.x.Search(q)
	near, f := s.x.Nearest(at(a, b), 7)
	if e != nil || f != nil || !slices.Equal(found, s.now.Search(q)) || !slices.Equal(near, s.m.Nearest(at(a, b), 7)) {
		t.Fatalf("Search(%v) = %v, %v; Nearest %v, %v", q, found, e, near, f)
	}
	for id := range 40 {
		o, there := s.x.Get(id)
		if p, want := s.now.Get(id); there != want || !rel.Same(o, p) {
			t.Fatalf("Get(%d) = %v, %v", id, o, there)
		}
	}
}

// TestP26_6P26_7 plays one DB by chance, crashes it again and again, and holds it against the model.
func TestP26_6P26_7(t *testing.T) {
	for seed := range int64(8) {
		r := rand.New(rand.NewSource(seed))
		d := newDisk(t, 512)
		may := []*model.M{model.New()}
		for round := range 60 {
			if r.Intn(4) == 0 {
				d.Cut(0)
				if _, e := Open(d, 4); !isFault(e, 0, api.ErrOff) {
					t.Fatal(e)
				}
				d = crashed(r, d)
			}
			x, e := Open(d, 4+r.Intn(13))
			if e != nil {
				t.Fatalf("seed %d, round %d: %v", seed, round, e)
			}
			i := slices.IndexFunc(may, func(m *model.M) bool { return holds(x, m) == nil })
			if i < 0 {
				t.Fatalf("seed %d, round %d: %v", seed, round, holds(x, may[0]))
			}
			d.Cut(r.Intn(60))
			may = play(t, r, &side{x, may[i], may[i].Copy()})
			d = crashed(r, d)
		}
	}
}

// play plays a DB until the power is off; it answers the maps that are allowed then.
func play(t *testing.T, r *rand.Rand, s *side) []*model.M {
	t.Helper()
	for {
		e, next := error(nil), s.m
		switch kind := r.Intn(8); {
		case kind == 0:
			e = s.x.Vacuum()
		case kind == 1 && s.m.Len() == 0:
			l := []api.Item{}
			for id := range 20 {
				l = append(l, api.Item{ID: id, Obj: some(r)})
			}
			next, e = model.Of(l), s.x.Bulk(l)
		default:
			must(t, s.x.Begin())
			s.now = s.m.Copy()
			for range r.Intn(34) {
				s.change(t, r)
			}
			s.asks(t, r)
			if r.Intn(4) == 0 {
				must(t, s.x.Abort())
			} else {
				next, e = s.now, s.x.Commit()
			}
		}
		switch {
		case errors.Is(e, api.ErrOff):
			must(t, holds(s.x, s.m))
			return []*model.M{s.m, next}
		case e != nil:
			t.Fatal(e)
		}
		s.m, s.now = next, next.Copy()
		s.asks(t, r)
		must(t, holds(s.x, s.m))
	}
}

// crashed is what some crash leaves of d.
func crashed(r *rand.Rand, d *disk.Disk) *disk.Disk {
	keep := make([]bool, r.Intn(5))
	for i := range keep {
		keep[i] = r.Intn(2) == 0
	}
	return d.Crash(keep, r.Intn(40)-2)
}

func TestHandedInIsNotKept(t *testing.T) {
	x, o := opened(t, newDisk(t, 512)), object(api.KPoint, 4, 4)
	must(t, x.Bulk([]api.Item{{ID: 1, Obj: o}}), x.Begin(), x.Put(2, o))
	o.Points[0].X = 99
	for range 2 {
		for id := 1; id <= 2; id++ {
			got, ok := x.Get(id)
			if !ok || got.Points[0] != at(4, 4) {
				t.Errorf("Get(%d) = %v", id, got)
			}
			got.Points[0].X = 98
		}
		if x.Busy() {
			must(t, x.Commit())
		}
		x.Items()[1].Obj.Points[0].X = 97
	}
}
