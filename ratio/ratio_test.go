package ratio

import (
	"errors"
	"math/big"
	"math/rand"
	"slices"
	"testing"

	"pergola/api"
	"pergola/wide"
)

const most = ^uint64(0)

// number is d as a fraction of the library.
func number(d api.Dist) *big.Rat {
	n := new(big.Int).SetUint64(d.Hi)
	n.Lsh(n, 64).Or(n, new(big.Int).SetUint64(d.Lo))
	return new(big.Rat).SetFrac(n, new(big.Int).SetUint64(d.Den))
}

// some is fractions of edges, and some by chance; sound ones alone.
func some() []api.Dist {
	l := []api.Dist{}
	words := []uint64{0, 1, 2, 3, 4, 6, 12, 1 << 32, 1 << 63, most - 1, most}
	for _, hi := range words {
		for _, lo := range words {
			for _, den := range words[1:] {
				l = append(l, api.Dist{Hi: hi, Lo: lo, Den: den})
			}
		}
	}
	r := rand.New(rand.NewSource(2))
	for range 300 {
		l = append(l, api.Dist{Hi: r.Uint64() >> r.Intn(64), Lo: r.Uint64(), Den: 1 + r.Uint64()>>(1+r.Intn(63))})
	}
	return l
}

func TestP2_1Of(t *testing.T) {
	for _, n := range []int{0, 1, -1, 5, -7, 1<<63 - 1, -1 << 63} {
		b := big.NewInt(int64(n))
		got := Of(n)
		if got.Den != 1 || number(got).Cmp(new(big.Rat).SetInt(b.Mul(b, b))) != 0 {
			t.Errorf("Of(%d) = %v", n, got)
		}
	}
}

func TestP2_1Make(t *testing.T) {
	for _, d := range some() {
		got, e := Make(wide.U{Hi: d.Hi, Lo: d.Lo}, d.Den)
		want := number(d)
		if e != nil || number(got).Cmp(want) != 0 || want.Denom().Cmp(new(big.Int).SetUint64(got.Den)) != 0 {
			t.Fatalf("Make(%v) = %v, %v", d, got, e)
		}
	}
	if got, _ := Make(wide.U{}, 77); got != (api.Dist{Den: 1}) {
		t.Errorf("0 / 77 = %v", got)
	}
	if got, _ := Make(wide.U{Lo: 6}, 4); got != (api.Dist{Lo: 3, Den: 2}) {
		t.Errorf("6 / 4 = %v", got)
	}
	for _, num := range []wide.U{{}, {Lo: 1}, {Hi: most, Lo: most}} {
		if got, e := Make(num, 0); !errors.Is(e, api.ErrArg) || got != (api.Dist{}) {
			t.Errorf("Make(%v, 0) = %v, %v", num, got, e)
		}
	}
}

func TestP2_1Sound(t *testing.T) {
	if Sound(api.Dist{Hi: 1, Lo: 1}) || !Sound(api.Dist{Den: 1}) || !Sound(api.Dist{Den: most}) {
		t.Error("Sound asks whether Den is 0")
	}
}

func TestP2_2Compare(t *testing.T) {
	l := some()
	for i, a := range l {
		for j := i; j < len(l); j += 1 + i%7 {
			b := l[j]
			if want := number(a).Cmp(number(b)); Compare(a, b) != want || Compare(b, a) != -want {
				t.Fatalf("Compare(%v, %v) = %d", a, b, Compare(a, b))
			}
		}
		none := api.Dist{Hi: uint64(i)}
		if Compare(a, none) != -1 || Compare(none, a) != 1 || Compare(none, api.Dist{Lo: 3}) != 0 {
			t.Fatalf("%v is behind what may not be", a)
		}
	}
}

func TestP2_2Min(t *testing.T) {
	two, half, quarters := api.Dist{Lo: 2, Den: 1}, api.Dist{Lo: 1, Den: 2}, api.Dist{Lo: 2, Den: 4}
	cases := []struct {
		l    []api.Dist
		want api.Dist
	}{
		{nil, api.Dist{}},
		{[]api.Dist{two}, two},
		{[]api.Dist{two, half, quarters}, half},
		{[]api.Dist{two, quarters, half}, quarters},
		{[]api.Dist{{Lo: 5}, two}, two},
		{[]api.Dist{{Lo: 5}, {Lo: 4}}, api.Dist{Lo: 5}},
	}
	for _, c := range cases {
		if got := Min(c.l...); got != c.want {
			t.Errorf("Min(%v) = %v", c.l, got)
		}
	}
}

func TestP2_2Less(t *testing.T) {
	near := func(id int, lo, den uint64) api.Near {
		return api.Near{ID: id, Dist: api.Dist{Lo: lo, Den: den}}
	}
	l := []api.Near{near(9, 0, 1), near(-4, 1, 2), near(3, 2, 4), near(1, 1, 1), near(2, 5, 0), near(3, 1, 0)}
	for i, a := range l {
		for j, b := range l {
			if Less(a, b) != (i < j) {
				t.Errorf("Less(%v, %v)", a, b)
			}
		}
	}
	if !slices.IsSortedFunc(l, func(a, b api.Near) int { return Compare(a.Dist, b.Dist) }) {
		t.Error("Less goes by Compare first")
	}
}

func TestP2_3Text(t *testing.T) {
	cases := map[api.Dist]string{
		{}:                              "none",
		{Hi: 3, Lo: 3}:                  "none",
		{Den: 9}:                        "0",
		{Lo: 6, Den: 4}:                 "3/2",
		{Lo: 8, Den: 4}:                 "2",
		{Hi: 1, Den: 1}:                 "18446744073709551616",
		{Hi: 1, Den: 2}:                 "9223372036854775808",
		{Hi: 1, Lo: 1, Den: most}:       "18446744073709551617/18446744073709551615",
		{Hi: most, Lo: most, Den: 1}:    "340282366920938463463374607431768211455",
		{Lo: most, Den: most}:           "1",
		{Lo: 1, Den: most}:              "1/18446744073709551615",
		{Hi: most, Lo: most, Den: most}: "18446744073709551617",
	}
	for d, want := range cases {
		if got := Text(d); got != want {
			t.Errorf("Text(%v) = %s, not %s", d, got, want)
		}
	}
}
