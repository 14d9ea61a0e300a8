package sorter

import (
	"errors"
	"math"
	"math/rand"
	"slices"
	"testing"

	"pergola/api"
	"pergola/curve"
	"pergola/rel"
)

const far = api.MaxCoord

func object(kind int, v ...int) api.Object {
	o := api.Object{Kind: kind}
	for i := 0; i+1 < len(v); i += 2 {
		o.Points = append(o.Points, api.Point{X: v[i], Y: v[i+1]})
	}
	return o
}

// isFault tells whether e is a Fault of these that is the error want.
func isFault(e error, op string, id int, want api.Errno) bool {
	var f *api.Fault
	return errors.As(e, &f) && f.Op == op && f.ID == id && errors.Is(e, want)
}

// keyed is one whose place tells where it stood.
func keyed(key uint64, id, place int) Keyed {
	return Keyed{key, api.Item{ID: id, Obj: object(api.KPoint, place, 0)}}
}

func place(k Keyed) int { return k.Item.Obj.Points[0].X }

// alike compares two lists, by what stands where.
func alike(a, b []Keyed) bool {
	return slices.EqualFunc(a, b, func(x, y Keyed) bool {
		return x.Key == y.Key && x.Item.ID == y.Item.ID && rel.Same(x.Item.Obj, y.Item.Obj)
	})
}

// some is n by chance, many of them alike.
func some(r *rand.Rand, n int) []Keyed {
	l := []Keyed{}
	for i := range n {
		l = append(l, keyed(uint64(r.Intn(5)), r.Intn(3), i))
	}
	return l
}

func TestP20_1Key(t *testing.T) {
	for _, o := range []api.Object{object(api.KPoint, 3, -4), object(api.KInterval, -7, 2), object(api.KBox, -far, -far, far, far), object(api.KBox, 0, 0, 3, 4), object(api.KPolygon, 0, 0, 9, 0, 0, 5)} {
		b, _ := rel.Bounds(o)
		c, _ := curve.Centre(b)
		want, _ := curve.Z(c)
		if got, e := Key(o); e != nil || got != want {
			t.Errorf("Key(%v) = %d, %v", o, got, e)
		}
	}
	for want, o := range map[api.Errno]api.Object{api.ErrKind: {}, api.ErrVerts: object(api.KPoint), api.ErrRange: object(api.KPoint, far+1, 0), api.ErrArg: object(api.KBox, 1, 0, 0, 0), api.ErrSimple: object(api.KPolygon, 0, 0, 1, 1, 2, 2)} {
		if got, e := Key(o); got != 0 || !isFault(e, "object", o.Kind, want) {
			t.Errorf("Key(%v) = %d, %v", o, got, e)
		}
	}
}

func TestP20_1Less(t *testing.T) {
	l := []Keyed{keyed(0, -3, 9), keyed(0, 5, 1), keyed(1, -9, 0), keyed(math.MaxUint64, 0, 0)}
	for i, a := range l {
		for j, b := range l {
			if Less(a, b) != (i < j) {
				t.Errorf("Less(%v, %v)", a, b)
			}
		}
	}
	if Less(keyed(1, 1, 1), keyed(1, 1, 2)) || Less(keyed(1, 1, 2), keyed(1, 1, 1)) {
		t.Error("alike")
	}
}

func TestP20_1Runs(t *testing.T) {
	r := rand.New(rand.NewSource(26))
	for _, n := range []int{0, 1, 2, 7, 100, 1500} {
		l := some(r, n)
		before := slices.Clone(l)
		for _, size := range []int{1, 2, 3, 10, 99, 100, 1000} {
			runs, e := Runs(l, size)
			if e != nil || len(runs) != (n+size-1)/size {
				t.Fatalf("%d runs of %d: %v", len(runs), n, e)
			}
			for i, run := range runs {
				want := slices.Clone(l[i*size : min(n, (i+1)*size)])
				slices.SortStableFunc(want, func(a, b Keyed) int {
					if Less(a, b) {
						return -1
					} else if Less(b, a) {
						return 1
					}
					return 0
				})
				if !alike(run, want) {
					t.Fatalf("run %d of %d of size %d: %v", i, n, size, run)
				}
			}
		}
		if !alike(l, before) {
			t.Error("what is handed in is changed")
		}
	}
	for _, size := range []int{0, -1, 1001, math.MaxInt, math.MinInt} {
		if runs, e := Runs(some(r, 3), size); runs != nil || !errors.Is(e, api.ErrArg) {
			t.Errorf("Runs of size %d: %v", size, e)
		}
		if l, e := Sort([]api.Item{{ID: 4}}, size); l != nil || !errors.Is(e, api.ErrArg) {
			t.Errorf("Sort of size %d: %v", size, e)
		}
	}
}

// mergedPlainly goes by the words: always the first of a run that comes ahead of the first ones of all others.
func mergedPlainly(runs [][]Keyed) []Keyed {
	runs, l := slices.Clone(runs), []Keyed{}
	for {
		first := -1
		for i, run := range runs {
			if len(run) > 0 && (first < 0 || Less(run[0], runs[first][0])) {
				first = i
			}
		}
		if first < 0 {
			return l
		}
		l, runs[first] = append(l, runs[first][0]), runs[first][1:]
	}
}

func TestP20_2Merge(t *testing.T) {
	r := rand.New(rand.NewSource(27))
	for range 400 {
		runs := make([][]Keyed, r.Intn(9))
		for i := range runs {
			runs[i] = some(r, r.Intn(7)) // not sorted
			for j := range runs[i] {
				runs[i][j].Item.Obj.Points[0].X += 100 * i
			}
		}
		want := mergedPlainly(runs)
		got := Merge(runs)
		if !alike(got, want) {
			t.Fatalf("Merge(%v) = %v", runs, got)
		}
		for i := range got { // what is answered is new memory
			got[i].Item.Obj.Points[0].X = -1
			got[i].Key = 99
		}
		if !alike(mergedPlainly(runs), want) {
			t.Fatal("what is handed in is changed")
		}
	}
	if len(Merge(nil)) != 0 || len(Merge([][]Keyed{nil, {}})) != 0 {
		t.Error("Merge of none")
	}
}

func TestP20_2P20_3Sort(t *testing.T) {
	r := rand.New(rand.NewSource(28))
	for _, n := range []int{0, 1, 2, 50, 1200} {
		l, want := []api.Item{}, []Keyed{}
		for range n {
			x := api.Item{ID: r.Intn(4), Obj: object(api.KBox, r.Intn(3), 0, 3+r.Intn(3), r.Intn(4))}
			key, _ := Key(x.Obj)
			l, want = append(l, x), append(want, Keyed{key, x})
		}
		slices.SortStableFunc(want, func(a, b Keyed) int {
			if a.Key != b.Key {
				return map[bool]int{true: -1, false: 1}[a.Key < b.Key]
			}
			return a.Item.ID - b.Item.ID
		})
		for _, size := range []int{1, 2, 7, 999, 1000} {
			got, e := Sort(l, size)
			if e != nil || len(got) != n {
				t.Fatalf("Sort of %d: %d, %v", n, len(got), e)
			}
			for i := range got {
				if got[i].ID != want[i].Item.ID || !rel.Same(got[i].Obj, want[i].Item.Obj) {
					t.Fatalf("the %d-th is %v", i, got[i])
				}
				got[i].Obj.Points[0].X = -99
			}
		}
	}
	bad := []api.Item{{ID: 1, Obj: object(api.KPoint, 0, 0)}, {ID: 8, Obj: object(api.KPoint)}, {ID: 9}}
	if l, e := Sort(bad, 5); l != nil || !isFault(e, "sort", 8, api.ErrVerts) {
		t.Errorf("the first item's error: %v", e)
	}
	two, _ := Sort([]api.Item{{ID: 1, Obj: object(api.KPoint, 0, 5)}, {ID: 2, Obj: object(api.KPoint, 5, 0)}}, 1)
	if two[0].ID != 2 || place(Keyed{0, two[0]}) != 5 {
		t.Errorf("the one whose Z is less: %v", two)
	}
}
