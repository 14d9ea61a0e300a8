package vault

import (
	"slices"

	"pergola/api"
	"pergola/enc"
	"pergola/fault"
	"pergola/frame"
	"pergola/wal"
)

/*
A vault lies on its disk so: a head, two areas, a log. The head says which of the areas has the map as it was written last; the log has what was committed since. To write all anew the other area is filled, then the head is written: a head fills the left half of its sector alone, and so a crash leaves the old one or the new one.

Each half of a sector is sealed: what is neither sealed nor noughts was not left by this package.
*/

const (
	half    = api.Sector / 2
	payload = half - frame.SumLen // bytes of a half
	roomOf  = 4                   // a map may have this part of the disk
	perItem = 16                  // of an item's weight, beside its object's bytes
)

// Of a commit's records all but the last one begin with more.
const (
	last = iota
	more
)

// head says where the map is.
type head struct {
	area int // 0 or 1
	size int // bytes in it
	sum  int // of these
	mark int // the first record of the log that is not in it
}

func layHead(h head) []byte {
	b := frame.AppendInt(nil, h.area, 1)
	b = frame.AppendInt(b, h.size, 4)
	b = frame.AppendInt(b, h.sum, 4)
	b = frame.AppendInt(b, h.mark, 8)
	return append(frame.Seal(b, half), make([]byte, half)...)
}

// readHead is what s says; a head of noughts says that the second area has nothing, so that the first one is written first.
func readHead(s []byte) (head, error) {
	b, sound := frame.Unseal(s[:half])
	if !sound || !frame.Blank(s[half:]) {
		return head{}, api.ErrBad
	}
	if b == nil {
		return head{area: 1}, nil
	}
	h := head{}
	h.area, b = frame.TakeInt(b, 1)
	h.size, b = frame.TakeInt(b, 4)
	h.sum, b = frame.TakeInt(b, 4)
	h.mark, b = frame.TakeInt(b, 8)
	if h.area > 1 || h.mark < 0 || !frame.Blank(b) {
		return head{}, api.ErrBad
	}
	return h, nil
}

// areaLen is how many sectors an area has: enough for a map of the greatest weight.
func (v *Vault) areaLen() int { return (v.Room() + 2*payload - 1) / (2 * payload) }

// areaAt is an area's first sector.
func (v *Vault) areaAt(area int) int { return 1 + area*v.areaLen() }

// load reads the map.
func (v *Vault) load() error {
	s, e := v.d.Read(0)
	if e != nil {
		return e
	}
	if v.head, e = readHead(s); e != nil {
		return e
	}
	b, e := v.readAreas()
	if e != nil {
		return e
	}
	if e := v.redo(b); e != nil {
		return e
	}
	if v.log, e = wal.Open(v.d, v.areaAt(2), v.d.Len()); e != nil {
		return e
	}
	if e := v.readLog(); e != nil {
		return e
	}
	if v.weight > v.Room() {
		return api.ErrBad
	}
	return nil
}

// readAreas is the bytes of the area that the head tells; both areas must be sound.
func (v *Vault) readAreas() ([]byte, error) {
	b := []byte{}
	for area := range 2 {
		for at := range v.areaLen() {
			s, e := v.d.Read(v.areaAt(area) + at)
			if e != nil {
				return nil, e
			}
			left, ok := frame.Unseal(s[:half])
			right, too := frame.Unseal(s[half:])
			if !ok || !too {
				return nil, api.ErrBad
			}
			if area == v.head.area && len(b) < v.head.size {
				b = append(append(b, left...), right...)
			}
		}
	}
	if len(b) < v.head.size || int(frame.Sum(b[:v.head.size])) != v.head.sum {
		return nil, api.ErrBad
	}
	return b[:v.head.size], nil
}

// readLog does what was committed since the area was written.
func (v *Vault) readLog() error {
	if v.head.mark < v.log.First() || v.head.mark > v.log.Len() {
		return api.ErrBad
	}
	b := []byte{}
	for k := v.head.mark; ; k++ {
		r, e := v.log.Read(k)
		switch {
		case fault.Ends(e) && len(b) == 0:
			return nil
		case e != nil, len(r) == 0, r[0] > more:
			return api.ErrBad
		}
		b = append(b, r[1:]...)
		if r[0] == more {
			continue
		}
		if e := v.redo(b); e != nil {
			return e
		}
		b = b[:0]
	}
}

// redo does the changes that b has: those of a commit, or the puts of an area.
func (v *Vault) redo(b []byte) error {
	d := v.draft()
	for len(b) > 0 {
		c, n, e := enc.Unchange(b)
		if e != nil || d.doLaid(c, b[:n]) != nil {
			return api.ErrBad
		}
		b = b[n:]
	}
	v.take(d)
	return nil
}

// records is a commit's bytes as records of the log.
func records(b []byte) [][]byte {
	l := [][]byte{}
	for piece := range slices.Chunk(b, api.MaxRecord-1) {
		l = append(l, append([]byte{more}, piece...))
	}
	l[len(l)-1][0] = last
	return l
}

// rewrite makes what the map is behind d last, in the area that is not used now.
func (v *Vault) rewrite(d *draft) error {
	b := d.all()
	h := head{area: 1 - v.head.area, size: len(b), sum: int(frame.Sum(b)), mark: v.log.Len()}
	at := v.areaAt(h.area)
	for piece := range slices.Chunk(b, 2*payload) {
		split := min(len(piece), payload)
		s := append(frame.Seal(piece[:split], half), frame.Seal(piece[split:], half)...)
		if e := v.d.Write(at, s); e != nil {
			return e
		}
		at++
	}
	if e := v.d.Sync(); e != nil {
		return e
	}
	if e := v.d.Write(0, layHead(h)); e != nil {
		return e
	}
	if e := v.d.Sync(); e != nil {
		return e
	}
	v.head = h
	return v.log.Trim(h.mark)
}
