package vault

import (
	"bytes"
	"errors"
	"fmt"
	"maps"
	"math"
	"math/rand"
	"slices"
	"testing"

	"pergola/api"
	"pergola/disk"
	"pergola/enc"
	"pergola/frame"
	"pergola/rel"
)

const far = api.MaxCoord

// isFault tells whether e is a vault's Fault with an ID that is the error want.
func isFault(e error, id int, want api.Errno) bool {
	var f *api.Fault
	return errors.As(e, &f) && f.Op == "vault" && f.ID == id && errors.Is(e, want)
}

func newDisk(t testing.TB, sectors int) *disk.Disk {
	t.Helper()
	d, e := disk.New(sectors)
	if e != nil {
		t.Fatal(e)
	}
	return d
}

func opened(t testing.TB, d *disk.Disk) *Vault {
	t.Helper()
	v, e := Open(d)
	if e != nil {
		t.Fatal(e)
	}
	return v
}

func point(x, y int) api.Object {
	return api.Object{Kind: api.KPoint, Points: []api.Point{{X: x, Y: y}}}
}

// big is a polygon of n corners; with 64 far ones it has 642 bytes.
func big(n, size int) api.Object {
	o := api.Object{Kind: api.KPolygon, Points: []api.Point{{X: -size, Y: -size}, {X: size, Y: -size}}}
	for i := 2; i < n; i++ {
		x := size - (i-2)*(size/n)
		o.Points = append(o.Points, api.Point{X: x, Y: size - i%2})
	}
	return o
}

func adds(id int, o api.Object) api.Change { return put(api.Item{ID: id, Obj: o}) }

func dels(id int) api.Change { return api.Change{Kind: api.ChDel, Item: api.Item{ID: id}} }

// plain is a map by its words; it is never changed.
type plain map[int]api.Object

// done is the map behind changes, and why they are refused.
func (p plain) done(l []api.Change, room int) (plain, api.Errno) {
	n := maps.Clone(p)
	for _, c := range l {
		_, there := n[c.Item.ID]
		switch {
		case c.Kind == api.ChPut && there:
			return p, api.ErrDup
		case c.Kind == api.ChPut:
			n[c.Item.ID] = c.Item.Obj
		case !there:
			return p, api.ErrAbsent
		}
		if c.Kind == api.ChDel {
			delete(n, c.Item.ID)
		}
	}
	if n.weight() > room {
		return p, api.ErrFull
	}
	return n, 0
}

func (p plain) weight() int {
	sum := 0
	for _, o := range p {
		b, _ := enc.Object(o)
		sum += 16 + len(b)
	}
	return sum
}

func (p plain) is(v *Vault) bool {
	l := v.Items()
	if len(l) != len(p) || v.Len() != len(p) {
		return false
	}
	for i, x := range l {
		o, ok := v.Get(x.ID)
		if i > 0 && x.ID <= l[i-1].ID || !ok || !rel.Same(o, x.Obj) || !rel.Same(o, p[x.ID]) {
			return false
		}
	}
	return true
}

func (p plain) items() []api.Item {
	l := []api.Item{}
	for _, id := range slices.Sorted(maps.Keys(p)) {
		l = append(l, api.Item{ID: id, Obj: p[id]})
	}
	return l
}

func TestP14_1Open(t *testing.T) {
	for _, d := range []*disk.Disk{nil, {}, newDisk(t, 1), newDisk(t, 511)} {
		if v, e := Open(d); v != nil || !isFault(e, 0, api.ErrArg) {
			t.Errorf("Open of %d sectors: %v", d.Len(), e)
		}
	}
	for _, n := range []int{512, 513, 515, 1000, 8191, 8192} {
		v := opened(t, newDisk(t, n))
		if v.Room() != 64*(n/4) || v.Len() != 0 || len(v.Items()) != 0 || v.Dead() {
			t.Errorf("a vault of %d sectors: room %d", n, v.Room())
		}
	}
	d := newDisk(t, 512)
	d.Cut(0)
	if v, e := Open(d); v != nil || !isFault(e, 0, api.ErrOff) {
		t.Errorf("what is told is for good: %v", e)
	}
}

func TestP14_1SpoiltSectors(t *testing.T) {
	d := newDisk(t, 512)
	v := opened(t, d)
	v.Load([]api.Item{{ID: 1, Obj: big(64, far)}, {ID: 3, Obj: point(1, 1)}})
	v.Checkpoint()
	v.Commit(adds(2, point(4, 4)), dels(1))
	v.Commit(adds(4, point(4, 4)))
	r := rand.New(rand.NewSource(14))
	for at := range 512 {
		was, _ := d.Read(at)
		for range 6 {
			c, b := d.Crash(nil, -1), bytes.Clone(was)
			b[r.Intn(64)] ^= 1 << r.Intn(8)
			c.Write(at, b)
			if v, e := Open(c); v != nil || !isFault(e, 0, api.ErrBad) {
				t.Fatalf("a bit of sector %d turned: %v", at, e)
			}
			c.Cut(0)
			if _, e := Open(c); !isFault(e, 0, api.ErrBad) {
				t.Fatalf("ErrBad goes ahead of ErrOff: %v", e)
			}
		}
	}
	c := d.Crash(nil, -1)
	c.Write(0, make([]byte, 64))
	if _, e := Open(c); !isFault(e, 0, api.ErrBad) {
		t.Errorf("the head lost: %v", e)
	}
	other := newDisk(t, 512)
	opened(t, other).Checkpoint()
	b, _ := other.Read(0)
	d.Write(0, b)
	if _, e := Open(d); !isFault(e, 0, api.ErrBad) {
		t.Errorf("another head: %v", e)
	}
}

func TestP14_2Commit(t *testing.T) {
	d := newDisk(t, 512)
	v := opened(t, d)
	v.Commit(adds(1, point(1, 1)))
	many := []api.Change{dels(99)}
	for i := range 32 {
		many = append(many, adds(100+i, point(i, i)))
	}
	cases := []struct {
		l    []api.Change
		id   int
		want api.Errno
	}{
		{many, 0, api.ErrMany},
		{[]api.Change{adds(1, point(0, 0))}, 1, api.ErrDup},
		{[]api.Change{adds(2, point(0, 0)), adds(2, point(0, 0))}, 2, api.ErrDup},
		{[]api.Change{dels(1), dels(1)}, 1, api.ErrAbsent},
		{[]api.Change{dels(7)}, 7, api.ErrAbsent},
		{[]api.Change{adds(5, point(0, 0)), dels(7), adds(1, point(0, 0))}, 7, api.ErrAbsent},
		{[]api.Change{adds(3, point(0, 0)), adds(-4, point(0, 0)), dels(7)}, -4, api.ErrArg},
		{[]api.Change{{Kind: 9, Item: api.Item{ID: 1}}}, 1, api.ErrArg},
		{[]api.Change{{Kind: api.ChDel, Item: api.Item{ID: 1, Obj: point(1, 1)}}}, 1, api.ErrArg},
		{[]api.Change{adds(1, api.Object{})}, 1, api.ErrKind},
		{[]api.Change{adds(8, point(far+1, 0))}, 8, api.ErrRange},
		{[]api.Change{adds(api.MaxID+1, point(0, 0))}, api.MaxID + 1, api.ErrArg},
	}
	ops := d.Ops()
	for i, c := range cases {
		if e := v.Commit(c.l...); !isFault(e, c.id, c.want) || !(plain{1: point(1, 1)}).is(v) || v.Dead() {
			t.Errorf("%d: %v", i, e)
		}
	}
	if v.Commit() != nil || d.Ops() != ops {
		t.Error("none is nil")
	}
	// One change behind the other; what is handed in is not kept.
	o := point(5, 5)
	if e := v.Commit(dels(1), adds(1, o), adds(api.MaxID, point(0, 0)), adds(0, point(2, 2)), dels(0), adds(0, point(3, 3))); e != nil {
		t.Fatal(e)
	}
	o.Points[0].X = 99
	got, _ := v.Get(1)
	got.Points[0].Y = 99
	v.Items()[1].Obj.Points[0].Y = 99
	want := plain{1: point(5, 5), api.MaxID: point(0, 0), 0: point(3, 3)}
	if !want.is(v) || !want.is(opened(t, d.Crash(nil, -1))) {
		t.Errorf("it is for good: %v", v.Items())
	}
	if o, ok := v.Get(2); ok || o.Kind != 0 || o.Points != nil {
		t.Error("Get of none")
	}
}

// ofBytes is a coordinate of n bytes, 1 to 5.
func ofBytes(n int) int {
	if n == 1 {
		return 0
	}
	return 1 << (7*(n-1) - 1)
}

// weighing is an object of a weight from 20 to 38: a point, or a box.
func weighing(w int) api.Object {
	if w <= 28 {
		return point(ofBytes((w-18)/2), ofBytes((w-17)/2))
	}
	n := w - 18
	lo, hi := api.Point{X: ofBytes(n / 4), Y: ofBytes((n + 1) / 4)}, api.Point{X: ofBytes((n + 2) / 4), Y: ofBytes((n + 3) / 4)}
	return api.Object{Kind: api.KBox, Points: []api.Point{lo, hi}}
}

func TestP14_2WeightAndRoom(t *testing.T) {
	for _, sectors := range []int{512, 600, 8192} {
		d := newDisk(t, sectors)
		v, p := opened(t, d), plain{}
		o := big(64, far)
		b, _ := enc.Object(o)
		each := 16 + len(b)
		id := 0
		for ; (id+1)*each <= v.Room(); id++ {
			if e := v.Commit(adds(id, o)); e != nil {
				t.Fatalf("%d sectors, the %d-th of %d: %v", sectors, id, v.Room()/each, e)
			}
			p[id] = o
		}
		if e := v.Commit(adds(id, o)); !isFault(e, 0, api.ErrFull) {
			t.Errorf("above the room: %v", e)
		}
		if e := v.Commit(adds(id, o), dels(id+1)); !isFault(e, id+1, api.ErrAbsent) {
			t.Errorf("ErrFull is looked for last: %v", e)
		}
		// Up to the room, to the byte.
		for next := 1000; p.weight() < v.Room(); next++ {
			x := point(0, 0)
			if rest := v.Room() - p.weight(); rest <= 38 {
				x = weighing(rest)
			} else if rest < 60 {
				x = weighing(rest / 2)
			}
			n, why := p.done([]api.Change{adds(next, x)}, v.Room())
			if e := v.Commit(adds(next, x)); why != 0 || e != nil {
				t.Fatalf("%d of %d: %v", n.weight(), v.Room(), e)
			}
			p = n
		}
		if e := v.Commit(adds(9999, point(0, 0))); !isFault(e, 0, api.ErrFull) {
			t.Errorf("one more: %v", e)
		}
		// All anew within one commit, again and again.
		for range 12 {
			l := []api.Change{}
			for i := range 16 {
				l = append(l, dels(i%8), adds(i%8, o))
			}
			if e := v.Commit(l...); e != nil {
				t.Fatal(e)
			}
		}
		if !p.is(v) || !p.is(opened(t, d.Crash(nil, -1))) {
			t.Error("the map is another one")
		}
		if e := v.Commit(dels(0)); e != nil {
			t.Fatal(e)
		}
		if e := v.Commit(adds(0, o)); e != nil {
			t.Fatal(e)
		}
	}
}

func TestP14_3Load(t *testing.T) {
	d := newDisk(t, 2000)
	v := opened(t, d)
	l := []api.Item{}
	for i := range 501 {
		l = append(l, api.Item{ID: (i * 7919) % 100003, Obj: point(i, -i)})
	}
	with := func(at int, x api.Item) []api.Item {
		c := slices.Clone(l[:20])
		c[at] = x
		return c
	}
	heavy := []api.Item{}
	for i := range 60 {
		heavy = append(heavy, api.Item{ID: i, Obj: big(64, far)})
	}
	cases := []struct {
		l    []api.Item
		id   int
		want api.Errno
	}{
		{l, 0, api.ErrMany},
		{with(5, api.Item{ID: -1, Obj: point(0, 0)}), -1, api.ErrArg},
		{with(5, api.Item{ID: 8, Obj: api.Object{}}), 8, api.ErrKind},
		{with(5, l[3]), l[3].ID, api.ErrDup},
		{append(with(5, l[3]), api.Item{ID: -1}), l[3].ID, api.ErrDup},
		{heavy, 0, api.ErrFull},
		{append(slices.Clone(heavy), heavy[9]), 9, api.ErrDup},
	}
	for i, c := range cases {
		if e := v.Load(c.l); !isFault(e, c.id, c.want) || v.Len() != 0 || v.Dead() {
			t.Errorf("%d: %v", i, e)
		}
	}
	if v.Load(nil) != nil || v.Load([]api.Item{}) != nil {
		t.Error("none of an empty list")
	}
	if e := v.Load(l[:500]); e != nil {
		t.Fatal(e)
	}
	want := plain{}
	for _, x := range l[:500] {
		want[x.ID] = point(x.Obj.Points[0].X, x.Obj.Points[0].Y)
	}
	l[0].Obj.Points[0].X = 99
	if !want.is(v) || !want.is(opened(t, d.Crash(nil, -1))) {
		t.Error("all are there, for good")
	}
	for _, again := range [][]api.Item{nil, l[:1]} {
		if e := v.Load(again); !isFault(e, 0, api.ErrArg) {
			t.Errorf("the map is not empty: %v", e)
		}
	}
	if e := v.Load(l); !isFault(e, 0, api.ErrMany) {
		t.Error(e)
	}
	if e := v.Checkpoint(); e != nil || !want.is(v) || !want.is(opened(t, d.Crash(nil, -1))) {
		t.Errorf("Checkpoint: %v", e)
	}
}

func TestP14_3Dead(t *testing.T) {
	calls := map[string]func(v *Vault) error{
		"Commit":     func(v *Vault) error { return v.Commit(adds(1, point(0, 0))) },
		"Load":       func(v *Vault) error { return v.Load([]api.Item{{ID: 1, Obj: point(0, 0)}}) },
		"Checkpoint": func(v *Vault) error { return v.Checkpoint() },
	}
	for name, call := range calls {
		d := newDisk(t, 512)
		v := opened(t, d)
		d.Cut(1)
		if e := call(v); !isFault(e, 0, api.ErrOff) || !v.Dead() {
			t.Errorf("%s: %v", name, e)
		}
		for name, call := range calls {
			if e := call(v); !isFault(e, 0, api.ErrOff) {
				t.Errorf("%s, dead: %v", name, e)
			}
		}
		if v.Commit() != nil || !isFault(v.Commit(make([]api.Change, 99)...), 0, api.ErrOff) || !isFault(v.Load(make([]api.Item, 999)), 0, api.ErrOff) || !isFault(v.Load(nil), 0, api.ErrOff) {
			t.Error("ErrOff goes ahead of all but nil")
		}
	}
}

// work does one call to a vault that is p; it answers the maps that are allowed then.
func work(t *testing.T, r *rand.Rand, v *Vault, p plain) []plain {
	t.Helper()
	next, want, e := p, api.Errno(0), error(nil)
	switch kind := r.Intn(12); {
	case kind == 0:
		e = v.Checkpoint()
	case kind == 1 && len(p) == 0:
		next = plain{}
		for range r.Intn(15) {
			next[r.Intn(30)] = someObject(r)
		}
		if next.weight() > v.Room() {
			return []plain{p}
		}
		e = v.Load(next.items())
	default:
		l := []api.Change{}
		for range r.Intn(1 + r.Intn(32)) {
			id := r.Intn(24)
			if n, _ := p.done(l, math.MaxInt); n[id].Kind != 0 {
				l = append(l, dels(id))
			} else {
				l = append(l, adds(id, someObject(r)))
			}
		}
		next, want = p.done(l, v.Room())
		e = v.Commit(l...)
	}
	switch {
	case errors.Is(e, api.ErrOff):
		return []plain{p, next}
	case want == 0 && e != nil, want != 0 && !errors.Is(e, want):
		t.Fatalf("%v, not %d", e, want)
	}
	return []plain{next}
}

func someObject(r *rand.Rand) api.Object {
	if r.Intn(3) == 0 {
		return big(3+r.Intn(62), 100+r.Intn(far-100))
	}
	return point(r.Intn(3), 0)
}

// TestP14_5 crashes one vault again and again, within all calls, and holds it against the maps that are allowed.
func TestP14_5TheLawOfCrashes(t *testing.T) {
	for seed := range int64(12) {
		r := rand.New(rand.NewSource(seed))
		d := newDisk(t, 512)
		may := []plain{{}}
		for step := range 120 {
			if r.Intn(4) == 0 {
				d.Cut(0)
				if _, e := Open(d); !isFault(e, 0, api.ErrOff) {
					t.Fatal(e)
				}
				d = crashed(r, d)
			}
			v, e := Open(d)
			if e != nil {
				t.Fatalf("seed %d, step %d: %v", seed, step, e)
			}
			i := slices.IndexFunc(may, func(p plain) bool { return p.is(v) })
			if i < 0 {
				t.Fatalf("seed %d, step %d: %v, not of %v", seed, step, v.Items(), may)
			}
			may = []plain{may[i]}
			d.Cut(r.Intn(1 + r.Intn(400)))
			for !v.Dead() {
				if may = work(t, r, v, may[0]); !v.Dead() && !may[0].is(v) {
					t.Fatalf("seed %d, step %d: %v", seed, step, v.Items())
				}
			}
			d = crashed(r, d)
		}
	}
}

// crashed is what some crash leaves of d.
func crashed(r *rand.Rand, d *disk.Disk) *disk.Disk {
	keep := make([]bool, r.Intn(5))
	for i := range keep {
		keep[i] = r.Intn(2) == 0
	}
	return d.Crash(keep, r.Intn(40)-2)
}

// All cuts of one script, with all of some ways to crash.
func TestP14_5EachOp(t *testing.T) {
	heavy := plain{}
	for i := range 9 {
		heavy[i] = big(60, far)
	}
	script := []func(v *Vault) error{
		func(v *Vault) error { return v.Load(heavy.items()) },
		func(v *Vault) error { return v.Commit(dels(0), dels(1), adds(20, big(30, far))) },
		func(v *Vault) error { return v.Commit(adds(0, big(64, far)), adds(1, point(1, 1))) },
		func(v *Vault) error { return v.Checkpoint() },
		func(v *Vault) error { return v.Commit(dels(20), adds(20, point(7, 7))) },
	}
	states := []plain{{}, heavy}
	for _, l := range [][]api.Change{{dels(0), dels(1), adds(20, big(30, far))}, {adds(0, big(64, far)), adds(1, point(1, 1))}, nil, {dels(20), adds(20, point(7, 7))}} {
		n, _ := states[len(states)-1].done(l, math.MaxInt)
		states = append(states, n)
	}
	for cut := 0; ; cut++ {
		d := newDisk(t, 512)
		v := opened(t, d)
		d.Cut(cut)
		done := 0
		for done < len(script) && script[done](v) == nil {
			done++
		}
		for _, keep := range [][]bool{nil, {true}, {true, false}, {false, true, true}} {
			for torn := -1; torn < 4; torn++ {
				w := opened(t, d.Crash(keep, torn))
				if !states[done].is(w) && !(done < len(script) && states[done+1].is(w)) {
					t.Fatalf("cut at %d, %v, %d: %v", cut, keep, torn, w.Items())
				}
			}
		}
		if done == len(script) {
			break
		}
	}
}

func TestP14_6NilAndZero(t *testing.T) {
	for _, v := range []*Vault{nil, {}} {
		if o, ok := v.Get(0); ok || o.Kind != 0 || v.Len() != 0 || len(v.Items()) != 0 || v.Room() != 0 || !v.Dead() {
			t.Error("a nil or zero Vault has nothing")
		}
		if v.Commit() != nil || !isFault(v.Commit(dels(1)), 0, api.ErrOff) || !isFault(v.Load(nil), 0, api.ErrOff) || !isFault(v.Checkpoint(), 0, api.ErrOff) {
			t.Error("it is dead")
		}
	}
}

func TestErrorsAreWrapped(t *testing.T) {
	v := opened(t, newDisk(t, 512))
	e := v.Commit(adds(6, api.Object{Kind: 1}))
	var f *api.Fault
	if inner := errors.Unwrap(e); !errors.As(inner, &f) || f.Op != "change" || !errors.Is(e, api.ErrVerts) {
		t.Error(fmt.Sprint(e))
	}
}

// Sectors whose sums are right, but that make no sense: no call panics.
func TestSealedNonsense(t *testing.T) {
	for seed := range int64(800) {
		r := rand.New(rand.NewSource(seed))
		d := newDisk(t, 512)
		for v := opened(t, d); seed%2 == 0 && r.Intn(4) > 0; {
			v.Commit(adds(r.Intn(9), someObject(r)))
			if r.Intn(3) == 0 {
				v.Checkpoint()
			}
		}
		for range r.Intn(40) {
			at, s := []int{0, 1, 148, 295, 296, 297, r.Intn(512)}[r.Intn(7)], []byte{}
			for range 2 {
				b := make([]byte, payload)
				for i := range b[:r.Intn(payload)] {
					b[i] = byte(r.Intn(3) * r.Intn(1+r.Intn(128)))
				}
				if s = append(s, frame.Seal(b, half)...); r.Intn(3) == 0 {
					clear(s[len(s)-half:])
				}
			}
			d.Write(at, s)
		}
		v, e := Open(d)
		if e != nil && !isFault(e, 0, api.ErrBad) {
			t.Fatal(e)
		}
		v.Items()
		v.Commit(adds(1000, point(1, 1)))
		v.Checkpoint()
	}
}
