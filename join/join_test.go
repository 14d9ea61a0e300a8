package join

import (
	"errors"
	"math/rand"
	"slices"
	"testing"

	"pergola/api"
	"pergola/gist"
	"pergola/opclass"
	"pergola/rel"
)

func object(kind int, v ...int) api.Object {
	o := api.Object{Kind: kind}
	for i := 0; i+1 < len(v); i += 2 {
		o.Points = append(o.Points, api.Point{X: v[i], Y: v[i+1]})
	}
	return o
}

// any is a class of all objects.
type any struct{ opclass.Class }

func (c any) Make(o api.Object) ([]byte, error) {
	b, e := rel.Bounds(o)
	return opclass.Key(b), e
}

func grown(t *testing.T, l ...api.Item) *gist.Tree {
	t.Helper()
	c, _ := opclass.Boxes(api.KBox)
	x, e := gist.New(any{c}, 5)
	if e == nil {
		e = x.Build(l)
	}
	if e != nil {
		t.Fatal(e)
	}
	return x
}

// some is n objects of all kinds, by chance.
func some(r *rand.Rand, n, size int) []api.Item {
	l := []api.Item{}
	for _, id := range r.Perm(3 * n)[:n] {
		x, y, w, h := r.Intn(size), r.Intn(size), r.Intn(4), r.Intn(4)
		o := object(1+r.Intn(4), x, y)
		switch o.Kind {
		case api.KInterval:
			o = object(api.KInterval, x, x+w)
		case api.KBox:
			o = object(api.KBox, x, y, x+w, y+h)
		case api.KPolygon:
			o = object(api.KPolygon, x, y, x+1+w, y, x, y+1+h)
		}
		l = append(l, api.Item{ID: id, Obj: o})
	}
	return l
}

func byID(l []api.Item) []api.Item {
	l = slices.Clone(l)
	slices.SortFunc(l, func(a, b api.Item) int { return a.ID - b.ID })
	return l
}

func TestP22_1(t *testing.T) {
	r := rand.New(rand.NewSource(31))
	for range 60 {
		a, b := byID(some(r, r.Intn(60), 20)), byID(some(r, r.Intn(60), 20))
		pairs, self := []Pair{}, []Pair{}
		for _, x := range a {
			for _, y := range b {
				if rel.Touch(x.Obj, y.Obj) {
					pairs = append(pairs, Pair{x.ID, y.ID})
				}
			}
			for _, y := range a {
				if x.ID < y.ID && rel.Touch(x.Obj, y.Obj) {
					self = append(self, Pair{x.ID, y.ID})
				}
			}
		}
		ta, tb := grown(t, a...), grown(t, b...)
		got, e := Pairs(ta, tb)
		own, f := Self(ta)
		if e != nil || f != nil || !slices.Equal(got, pairs) || !slices.Equal(own, self) {
			t.Fatalf("Pairs %v, %v; Self %v, %v", got, e, own, f)
		}
		turned, _ := Pairs(tb, ta)
		for i := range turned {
			turned[i] = Pair{turned[i].B, turned[i].A}
		}
		slices.SortFunc(turned, func(x, y Pair) int { return (x.A-y.A)*10000 + x.B - y.B })
		if !slices.Equal(turned, pairs) {
			t.Fatalf("P22.3: %v", turned)
		}
		groups(t, ta, a, self)
	}
}

// groups holds Groups and Alone against the pairs of l.
func groups(t *testing.T, x *gist.Tree, l []api.Item, pairs []Pair) {
	t.Helper()
	seen, want, alone := map[int]struct{}{}, [][]int{}, []int{}
	for _, i := range l {
		if _, ok := seen[i.ID]; ok {
			continue
		}
		g := []int{i.ID}
		for k := 0; k < len(g); k++ {
			seen[g[k]] = struct{}{}
			for _, p := range pairs {
				if p.B == g[k] {
					p = Pair{p.B, p.A}
				}
				if p.A == g[k] && !slices.Contains(g, p.B) {
					g = append(g, p.B)
				}
			}
		}
		slices.Sort(g)
		want = append(want, g)
		if len(g) == 1 {
			alone = append(alone, i.ID)
		}
	}
	got, e := Groups(x)
	one, f := Alone(x)
	if e != nil || f != nil || !slices.EqualFunc(got, want, slices.Equal[[]int]) || !slices.Equal(one, alone) {
		t.Fatalf("Groups %v, %v; Alone %v, %v; not %v", got, e, one, f, want)
	}
}

func TestExample(t *testing.T) {
	x := grown(t, api.Item{ID: 7, Obj: object(api.KBox, 0, 0, 2, 2)}, api.Item{ID: 3, Obj: object(api.KBox, 2, 2, 4, 4)})
	if got, e := Self(x); e != nil || !slices.Equal(got, []Pair{{3, 7}}) {
		t.Errorf("Self: %v, %v", got, e)
	}
}

func TestP22_1Many(t *testing.T) {
	r := rand.New(rand.NewSource(32))
	l := some(r, 2001, 100000)
	great, most := grown(t, l...), grown(t, l[:2000]...)
	isMany := func(e error) bool {
		var f *api.Fault
		return errors.As(e, &f) && f.Op == "join" && f.ID == 2001 && errors.Is(e, api.ErrMany)
	}
	for _, other := range []*gist.Tree{nil, {}, most} {
		if p, e := Pairs(great, other); p != nil || !isMany(e) {
			t.Error(e)
		}
		if p, e := Pairs(other, great); p != nil || !isMany(e) {
			t.Error(e)
		}
	}
	if p, e := Self(great); p != nil || !isMany(e) {
		t.Error(e)
	}
	if g, e := Groups(great); g != nil || !isMany(e) {
		t.Error(e)
	}
	if g, e := Alone(great); g != nil || !isMany(e) {
		t.Error(e)
	}
	if p, e := Pairs(most, most); e != nil || len(p) < 2000 {
		t.Errorf("2000 are not too many: %d, %v", len(p), e)
	}
}

func TestNone(t *testing.T) {
	some := grown(t, api.Item{ID: 1, Obj: object(api.KPoint, 0, 0)})
	for _, x := range []*gist.Tree{nil, {}} {
		a, e := Pairs(x, some)
		b, f := Pairs(some, x)
		c, g := Self(x)
		d, h := Groups(x)
		l, i := Alone(x)
		if errors.Join(e, f, g, h, i) != nil || len(a)+len(b)+len(c)+len(d)+len(l) != 0 {
			t.Error("nil trees have none")
		}
	}
}
