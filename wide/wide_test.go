package wide

import (
	"math/big"
	"math/rand"
	"strings"
	"testing"
)

const most = ^uint64(0)

// edges is words at which carries and signs turn.
var edges = []uint64{0, 1, 2, 9, 10, 1<<32 - 1, 1 << 32, chunk - 1, chunk, 1<<63 - 1, 1 << 63, most - 1, most}

func number(a U) *big.Int {
	n := new(big.Int).SetUint64(a.Hi)
	return n.Lsh(n, 64).Or(n, new(big.Int).SetUint64(a.Lo))
}

func word(v uint64) *big.Int { return new(big.Int).SetUint64(v) }

// someNumbers is all of two edges, and some by chance.
func someNumbers() []U {
	l := []U{}
	for _, hi := range edges {
		for _, lo := range edges {
			l = append(l, U{hi, lo})
		}
	}
	r := rand.New(rand.NewSource(1))
	for range 100 {
		l = append(l, U{r.Uint64(), r.Uint64()}, U{0, r.Uint64()}, U{r.Uint64() >> r.Intn(64), r.Uint64() >> r.Intn(64)})
	}
	return l
}

func TestP1_1MulAndSquare(t *testing.T) {
	if got := Mul(1<<63, 4); got != (U{2, 0}) {
		t.Errorf("Mul(2^63, 4) = %v", got)
	}
	for _, a := range edges {
		for _, b := range edges {
			if number(Mul(a, b)).Cmp(new(big.Int).Mul(word(a), word(b))) != 0 {
				t.Errorf("Mul(%d, %d) = %v", a, b, Mul(a, b))
			}
		}
	}
	for _, n := range []int{0, 1, -1, 3, -3, 1<<63 - 1, -1 << 63, -1<<63 + 1, 1 << 32, -1 << 32} {
		b := big.NewInt(int64(n))
		if number(Square(n)).Cmp(b.Mul(b, b)) != 0 {
			t.Errorf("Square(%d) = %v", n, Square(n))
		}
	}
}

func TestP1_1AddSubCompare(t *testing.T) {
	modulus := new(big.Int).Lsh(big.NewInt(1), 128)
	for _, a := range someNumbers() {
		for _, b := range someNumbers() {
			sum := new(big.Int).Add(number(a), number(b))
			got, over := Add(a, b)
			if over != (sum.Cmp(modulus) >= 0) || number(got).Cmp(sum.Mod(sum, modulus)) != 0 {
				t.Fatalf("Add(%v, %v) = %v, %v", a, b, got, over)
			}
			gap := new(big.Int).Sub(number(a), number(b))
			got, over = Sub(a, b)
			if over != (gap.Sign() < 0) || number(got).Cmp(gap.Mod(gap, modulus)) != 0 {
				t.Fatalf("Sub(%v, %v) = %v, %v", a, b, got, over)
			}
			if Compare(a, b) != number(a).Cmp(number(b)) {
				t.Fatalf("Compare(%v, %v) = %d", a, b, Compare(a, b))
			}
		}
	}
}

func TestP1_2Products(t *testing.T) {
	product := func(a U, b uint64) *big.Int { return new(big.Int).Mul(number(a), word(b)) }
	numbers := someNumbers()
	for i, a := range numbers {
		for _, b := range edges {
			top, low := Times(a, b)
			got := word(top)
			got.Lsh(got, 128).Or(got, number(low))
			if got.Cmp(product(a, b)) != 0 {
				t.Fatalf("Times(%v, %d) = %d, %v", a, b, top, low)
			}
			for _, d := range edges {
				c := numbers[(i*31+7)%len(numbers)]
				if CompareProducts(a, b, c, d) != product(a, b).Cmp(product(c, d)) {
					t.Fatalf("CompareProducts(%v, %d, %v, %d)", a, b, c, d)
				}
			}
		}
	}
	if CompareProducts(U{0, 6}, 4, U{0, 8}, 3) != 0 {
		t.Error("6 4 is not 8 3")
	}
}

func TestP1_3TextAndParse(t *testing.T) {
	for _, a := range someNumbers() {
		s := Text(a)
		if s != number(a).String() {
			t.Fatalf("Text(%v) = %s", a, s)
		}
		if got, ok := Parse(s); !ok || got != a {
			t.Fatalf("Parse(%s) = %v, %v", s, got, ok)
		}
	}
	if Text(U{1, 0}) != "18446744073709551616" {
		t.Error(Text(U{1, 0}))
	}
	modulus := new(big.Int).Lsh(big.NewInt(1), 128)
	wrong := []string{"", "00", "01", "-1", "-0", "+1", " 1", "1 ", "1a", "0x1", "1_0", "١", modulus.String(),
		strings.Repeat("9", 39), "1" + strings.Repeat("0", 39), strings.Repeat("1", 1000)}
	for _, s := range wrong {
		if got, ok := Parse(s); ok || got != (U{}) {
			t.Errorf("Parse(%q) = %v, %v", s, got, ok)
		}
	}
}

func TestDivide(t *testing.T) {
	for _, a := range someNumbers() {
		for _, b := range edges[1:] {
			quotient, rest := new(big.Int).DivMod(number(a), word(b), new(big.Int))
			if got, left := Divide(a, b); number(got).Cmp(quotient) != 0 || word(left).Cmp(rest) != 0 {
				t.Fatalf("Divide(%v, %d) = %v, %d", a, b, got, left)
			}
		}
	}
	if got, left := Divide(U{1, 2}, 0); got != (U{}) || left != 0 {
		t.Errorf("Divide by 0: %v, %d", got, left)
	}
}
