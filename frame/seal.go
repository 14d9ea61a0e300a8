package frame

// Beside frames, which have their length, the layers below seal bytes of a fixed length: noughts, or bytes with their sum ahead.

// SumLen is how many bytes of a seal are its sum.
const SumLen = word

// Seal is a seal of size bytes with b in it; b has at most size - SumLen bytes.
func Seal(b []byte, size int) []byte {
	s := make([]byte, size)
	copy(s[SumLen:], b)
	copy(s, AppendWord(nil, Sum(s[SumLen:])))
	return s
}

// Unseal is what is in a seal, and whether it is sound; nil of noughts, which are.
func Unseal(s []byte) (b []byte, sound bool) {
	switch {
	case Blank(s):
		return nil, true
	case Word(s) != Sum(s[SumLen:]):
		return nil, false
	}
	return s[SumLen:], true
}

// Blank tells whether all of b are noughts.
func Blank(b []byte) bool {
	for _, c := range b {
		if c != 0 {
			return false
		}
	}
	return true
}

// AppendInt lays the lowest n bytes of v, the least first.
func AppendInt(b []byte, v, n int) []byte {
	for range n {
		b = append(b, byte(v))
		v >>= 8
	}
	return b
}

// TakeInt is the number of n bytes that b begins with, and what is behind it.
func TakeInt(b []byte, n int) (v int, rest []byte) {
	for i, c := range b[:n] {
		v |= int(c) << (8 * i)
	}
	return v, b[n:]
}
