package wal

import (
	"pergola/api"
	"pergola/frame"
)

/*
A log lies on its sectors so: the first one is the head, the others are a ring, in which each record has sectors of its own, one behind the other.

A crash leaves of each half of a sector what it was, or what was written: so each half has a check sum of its own, and a half that is neither sound nor noughts was not left by this package. The halves of a batch (the records of one Append) have a tag in common, the check sum of all of the batch: halves of two batches that got mixed are told by it.
*/

const (
	half     = api.Sector / 2
	leftLen  = 14 // bytes of a record in the left half
	rightLen = 22 // and in the right one
	partLen  = leftLen + rightLen
)

// label says of which piece of a batch a sector is.
type label struct {
	tag    uint32
	index  int // of the record in its batch
	part   int // of the sector in its record
	count  int // records of the batch
	number int // of the record
	size   int // bytes of the record
}

// parts is how many sectors a record of size bytes has.
func parts(size int) int { return max(1, (size+partLen-1)/partLen) }

// lay is a sector with a piece of a record, at most partLen bytes.
func lay(l label, piece []byte) []byte {
	left := frame.AppendWord(nil, l.tag)
	left = append(left, byte(l.index), byte(l.part))
	right := append([]byte(nil), left...)
	left = append(left, byte(l.count))
	left = frame.AppendInt(left, l.number, 5)
	left = frame.AppendInt(left, l.size, 2)
	split := min(len(piece), leftLen)
	left = append(left, piece[:split]...)
	right = append(right, piece[split:]...)
	return append(frame.Seal(left, half), frame.Seal(right, half)...)
}

// sector is what a sector of the ring is.
type sector struct {
	named bool // its left half has a label
	label label
	whole bool // its right half goes with it
	piece []byte
}

// read is what s, a sector of the ring, is; false, if it was not left by this package.
func read(s []byte) (sector, bool) {
	left, ok := frame.Unseal(s[:half])
	right, too := frame.Unseal(s[half:])
	if !ok || !too || left == nil {
		return sector{}, ok && too
	}
	l := label{tag: frame.Word(left), index: int(left[4]), part: int(left[5]), count: int(left[6])}
	rest := left[7:]
	l.number, rest = frame.TakeInt(rest, 5)
	l.size, rest = frame.TakeInt(rest, 2)
	piece := append(append([]byte(nil), rest[:leftLen]...), make([]byte, rightLen)...)
	whole := false
	if right != nil && string(right[:6]) == string(left[:6]) {
		whole = true
		copy(piece[leftLen:], right[6:])
	}
	return sector{named: true, label: l, whole: whole, piece: piece}, true
}

// head says where the log begins.
type head struct {
	first  int // number of its first record
	at     int // where in the ring that is
	length int // how many records there were, when this was written
}

// layHead fills the left half alone: so a head is never torn.
func layHead(h head) []byte {
	b := frame.AppendInt(nil, h.first, 8)
	b = frame.AppendInt(b, h.at, 4)
	b = frame.AppendInt(b, h.length, 8)
	return append(frame.Seal(b, half), make([]byte, half)...)
}

// readHead is the head of a ring; noughts are that of a log that was never trimmed.
func readHead(s []byte, ring int) (head, bool) {
	b, sound := frame.Unseal(s[:half])
	if !sound || !frame.Blank(s[half:]) {
		return head{}, false
	}
	if b == nil {
		return head{}, true
	}
	h := head{}
	h.first, b = frame.TakeInt(b, 8)
	h.at, b = frame.TakeInt(b, 4)
	h.length, b = frame.TakeInt(b, 8)
	return h, frame.Blank(b) && h.first >= 0 && h.first <= h.length && h.at < ring
}
