// Package wide is numbers of 128 and 192 bits: see DOC.md, chapter 1.
package wide

import (
	"cmp"
	"math/bits"
	"strconv"
	"strings"
)

// U is a number: Hi 2^64 + Lo.
type U struct{ Hi, Lo uint64 }

// A word of 64 bits has room for every number of chunkDigits decimal digits; chunk is the first that has more.
const (
	chunk       = 10_000_000_000_000_000_000
	chunkDigits = 19
	maxDigits   = 39 // of a U
)

// words is a number of up to 192 bits, its least word first.
type words [3]uint64

// Mul is a b.
func Mul(a, b uint64) U {
	hi, lo := bits.Mul64(a, b)
	return U{hi, lo}
}

// Add is a + b modulo 2^128, and whether there was a carry.
func Add(a, b U) (U, bool) {
	lo, carry := bits.Add64(a.Lo, b.Lo, 0)
	hi, carry := bits.Add64(a.Hi, b.Hi, carry)
	return U{hi, lo}, carry != 0
}

// Sub is a - b modulo 2^128, and whether there was a borrow.
func Sub(a, b U) (U, bool) {
	lo, borrow := bits.Sub64(a.Lo, b.Lo, 0)
	hi, borrow := bits.Sub64(a.Hi, b.Hi, borrow)
	return U{hi, lo}, borrow != 0
}

// Compare is -1, 0 or 1: how a stands to b.
func Compare(a, b U) int {
	return compareFrom(2, words{a.Lo, a.Hi}, words{b.Lo, b.Hi})
}

// compareFrom compares the lowest n words of two numbers, the highest of these first.
func compareFrom(n int, a, b words) int {
	order := 0
	switch n {
	case 3:
		if order = cmp.Compare(a[2], b[2]); order != 0 {
			break
		}
		fallthrough
	case 2:
		if order = cmp.Compare(a[1], b[1]); order != 0 {
			break
		}
		fallthrough
	default:
		order = cmp.Compare(a[0], b[0])
	}
	return order
}

// Square is n n.
func Square(n int) U {
	m := uint64(n)
	if n < 0 {
		m = -m // wraps round, and so is right of the least int too
	}
	return Mul(m, m)
}

// Times is a b: top 2^128 + low.
func Times(a U, b uint64) (top uint64, low U) {
	carried, lo := bits.Mul64(a.Lo, b)
	top, hi := bits.Mul64(a.Hi, b)
	hi, carry := bits.Add64(hi, carried, 0)
	return top + carry, U{hi, lo}
}

// CompareProducts is how a b stands to c d: -1, 0 or 1.
func CompareProducts(a U, b uint64, c U, d uint64) int {
	x, low := Times(a, b)
	y, other := Times(c, d)
	return compareFrom(3, words{low.Lo, low.Hi, x}, words{other.Lo, other.Hi, y})
}

// Divide is a / b, and what is left: {0, 0} and 0, if b is 0.
func Divide(a U, b uint64) (U, uint64) {
	if b == 0 {
		return U{}, 0
	}
	hi, rest := a.Hi/b, a.Hi%b
	lo, rest := bits.Div64(rest, a.Lo, b)
	return U{hi, lo}, rest
}

// Text is a's decimal digits.
func Text(a U) string {
	tail := ""
	for a.Hi != 0 {
		rest := uint64(0)
		a, rest = Divide(a, chunk)
		digits := strconv.FormatUint(rest, 10)
		tail = strings.Repeat("0", chunkDigits-len(digits)) + digits + tail
	}
	return strconv.FormatUint(a.Lo, 10) + tail
}

// Parse is the number whose Text s is, and whether there is one.
func Parse(s string) (U, bool) {
	if s == "" || len(s) > maxDigits || len(s) > 1 && s[0] == '0' {
		return U{}, false
	}
	n := U{}
	for i := range len(s) {
		if s[i] < '0' || s[i] > '9' {
			return U{}, false
		}
		top, tenfold := Times(n, 10)
		sum, carry := Add(tenfold, U{0, uint64(s[i] - '0')})
		if top != 0 || carry {
			return U{}, false
		}
		n = sum
	}
	return n, true
}
