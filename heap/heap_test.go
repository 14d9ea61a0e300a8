package heap

import (
	"math/rand"
	"slices"
	"testing"

	"pergola/api"
	"pergola/ratio"
)

func dist(lo, den uint64) api.Dist { return api.Dist{Lo: lo, Den: den} }

func item(d api.Dist, id int) Entry { return Entry{Near: api.Near{ID: id, Dist: d}, Item: true} }

func node(d api.Dist, n int) Entry { return Entry{Near: api.Near{Dist: d}, Node: n} }

func TestP15_1Less(t *testing.T) {
	// Rising; those of one row are alike.
	rows := [][]Entry{
		{node(dist(0, 1), 7), node(dist(0, 9), 7)},
		{item(dist(0, 3), -5)},
		{node(dist(1, 2), -1), {Near: api.Near{ID: 99, Dist: dist(2, 4)}, Node: -1}},
		{node(dist(2, 4), 3)},
		{item(dist(1, 2), 4), {Near: api.Near{ID: 4, Dist: dist(3, 6)}, Item: true, Node: 50}},
		{item(dist(4, 8), 5)},
		{item(dist(2, 3), 0)},
		{node(api.Dist{Hi: 1, Den: 1}, 0)},
		{node(dist(0, 0), 1), node(dist(7, 0), 1)},
		{item(dist(9, 0), 1), item(dist(0, 0), 1)},
	}
	for i, k := range rows {
		for j, l := range rows {
			for _, a := range k {
				for _, b := range l {
					if Less(a, b) != (i < j) {
						t.Errorf("Less(%v, %v)", a, b)
					}
				}
			}
		}
	}
}

func TestP15_2Example(t *testing.T) {
	h := New()
	for _, n := range []int{3, 1, 2} {
		h.Push(item(ratio.Of(n), n))
	}
	for want := 1; want <= 3; want++ {
		top, there := h.Top()
		e, ok := h.Pop()
		if !there || !ok || top != e || e.Near.ID != want || h.Len() != 3-want {
			t.Errorf("Pop %v, %v", e, ok)
		}
	}
	if e, ok := h.Pop(); ok || e != (Entry{}) {
		t.Error("nothing is left")
	}
	if e, ok := h.Top(); ok || e != (Entry{}) {
		t.Error("nothing is left")
	}
}

func TestP15_2AlikeOnes(t *testing.T) {
	h, want := New(), []Entry{}
	for i := range 100 {
		e := Entry{Near: api.Near{ID: i % 3, Dist: dist(uint64(1+i), uint64(1+i))}, Item: true, Node: i}
		h.Push(e)
		want = append(want, e)
	}
	slices.SortStableFunc(want, func(a, b Entry) int { return a.Near.ID - b.Near.ID })
	for i, w := range want {
		if e, ok := h.Pop(); !ok || e != w {
			t.Fatalf("the %d-th is %v, not %v", i, e, w)
		}
	}
}

// By chance, against a list: the first that is pushed of those that nothing is Less than.
func TestP15_2P15_3ByChance(t *testing.T) {
	r := rand.New(rand.NewSource(15))
	for range 200 {
		h, l := New(), []Entry{}
		if r.Intn(2) == 0 {
			h = &Heap{}
		}
		for range 200 {
			if h.Len() != len(l) {
				t.Fatalf("Len %d", h.Len())
			}
			if r.Intn(5) < 3 {
				e := Entry{Near: api.Near{ID: r.Intn(3), Dist: dist(uint64(r.Intn(4)), uint64(r.Intn(4)))}, Item: r.Intn(2) == 0, Node: r.Intn(3)}
				h.Push(e)
				l = append(l, e)
				continue
			}
			first := 0
			for i := range l {
				if Less(l[i], l[first]) {
					first = i
				}
			}
			want, there := Entry{}, len(l) > 0
			if there {
				want = l[first]
				l = slices.Delete(l, first, first+1)
			}
			top, ok := h.Top()
			e, too := h.Pop()
			if ok != there || too != there || top != want || e != want {
				t.Fatalf("Pop %v, not %v", e, want)
			}
		}
	}
}

func TestP15_2Nil(t *testing.T) {
	var h *Heap
	h.Push(item(ratio.Of(1), 1))
	if _, ok := h.Pop(); ok || h.Len() != 0 {
		t.Error("a nil Heap has none")
	}
	if e, ok := h.Top(); ok || e != (Entry{}) {
		t.Error("a nil Heap has none")
	}
}
