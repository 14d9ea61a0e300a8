package frame

import (
	"bytes"
	"encoding/binary"
	"errors"
	"hash/crc32"
	"math/rand"
	"testing"

	"pergola/api"
)

// isFault tells whether e is a Fault of frame at a place that is the error want.
func isFault(e error, at int, want api.Errno) bool {
	var f *api.Fault
	return errors.As(e, &f) && f.Op == "frame" && f.ID == at && errors.Is(e, want)
}

// texts is bytes of many lengths.
func texts() [][]byte {
	l := [][]byte{nil, {0}, []byte("a"), []byte("123456789"), bytes.Repeat([]byte{0xff}, 300), make([]byte, 1<<16)}
	r := rand.New(rand.NewSource(9))
	for range 40 {
		b := make([]byte, r.Intn(200))
		r.Read(b)
		l = append(l, b)
	}
	return l
}

// framed is p's frame, by the library.
func framed(p []byte) []byte {
	b := append(binary.LittleEndian.AppendUint32(nil, uint32(len(p))), p...)
	return binary.LittleEndian.AppendUint32(b, crc32.ChecksumIEEE(b))
}

func TestP9_1Sum(t *testing.T) {
	for _, b := range texts() {
		if Sum(b) != crc32.ChecksumIEEE(b) {
			t.Fatalf("Sum of %d bytes", len(b))
		}
	}
	if Sum([]byte("123456789")) != 0xcbf43926 || Sum(nil) != 0 {
		t.Error("Sum")
	}
}

func TestP9_1Put(t *testing.T) {
	for _, p := range texts() {
		b, e := Put(p)
		if e != nil || !bytes.Equal(b, framed(p)) {
			t.Fatalf("Put of %d bytes: %v", len(p), e)
		}
	}
	if b, e := Put(make([]byte, 1<<16+1)); b != nil || !isFault(e, 0, api.ErrMany) {
		t.Errorf("Put of too many: %v", e)
	}
	if b, _ := Put([]byte("a")); !bytes.HasPrefix(b, []byte{1, 0, 0, 0, 'a'}) || len(b) != 9 {
		t.Errorf("the example: %x", b)
	}
}

func TestP9_2Next(t *testing.T) {
	for _, p := range texts() {
		b := framed(p)
		for _, tail := range []string{"", "\x00", "more of it"} {
			got, n, e := Next(append(bytes.Clone(b), tail...))
			if e != nil || n != len(b) || !bytes.Equal(got, p) {
				t.Fatalf("Next of a frame of %d bytes: %d, %v", len(p), n, e)
			}
		}
		for i := 0; i < len(b); i += 1 + len(b)/100 {
			if got, n, e := Next(b[:i]); got != nil || n != 0 || !isFault(e, 0, api.ErrNone) {
				t.Fatalf("Next of %d bytes of %d: %v", i, len(b), e)
			}
			if i >= word {
				spoilt := bytes.Clone(b)
				spoilt[i] ^= 1 << (i % 8)
				if got, n, e := Next(spoilt); got != nil || n != 0 || !isFault(e, 0, api.ErrBad) {
					t.Fatalf("Next, spoilt at %d of %d: %v", i, len(b), e)
				}
			}
		}
	}
	for _, b := range [][]byte{{1, 0, 1, 0}, {0, 0, 0, 1, 5}, {0xff, 0xff, 0xff, 0xff}} {
		if got, n, e := Next(b); got != nil || n != 0 || !isFault(e, 0, api.ErrBad) {
			t.Errorf("Next(%x): %v", b, e)
		}
	}
	for _, b := range [][]byte{nil, {1, 0, 1}, {0xff, 0xff, 0xff}, {0, 0, 1, 0}, {0, 0, 0, 0, 0x1c, 0xdf, 0x44}} {
		if got, n, e := Next(b); got != nil || n != 0 || !isFault(e, 0, api.ErrNone) {
			t.Errorf("Next(%x): %v", b, e)
		}
	}
}

func TestP9_2ScanAndP9_3(t *testing.T) {
	l := texts()
	row, ends := []byte{}, []int{0}
	for _, p := range l[:12] {
		if len(p) < 1000 {
			row = append(row, framed(p)...)
			ends = append(ends, len(row))
		}
	}
	before := bytes.Clone(row)
	got, at, e := Scan(row)
	if e != nil || at != len(row) || len(got) != len(ends)-1 {
		t.Fatalf("Scan: %d frames, %d, %v", len(got), at, e)
	}
	got[0], got[1] = append(got[0], 1, 2, 3), append(got[1][:0], 99)
	if !bytes.Equal(row, before) {
		t.Error("what is answered is new memory")
	}
	whole := 0
	for cut := range row {
		for whole+1 < len(ends) && ends[whole+1] <= cut {
			whole++
		}
		got, at, e := Scan(row[:cut])
		if len(got) != whole || at != ends[whole] || (cut == ends[whole]) != (e == nil) || e != nil && !isFault(e, at, api.ErrNone) {
			t.Fatalf("Scan of %d bytes: %d frames, %d, %v", cut, len(got), at, e)
		}
		for i, p := range got {
			if !bytes.Equal(p, row[ends[i]+word:ends[i+1]-word]) {
				t.Fatalf("frame %d of %d bytes", i, cut)
			}
		}
	}
	row[ends[3]+word] ^= 1
	if got, at, e := Scan(row); len(got) != 3 || at != ends[3] || !isFault(e, ends[3], api.ErrBad) {
		t.Errorf("Scan of a spoilt row: %d frames, %d, %v", len(got), at, e)
	}
	if got, at, e := Scan(nil); got != nil || at != 0 || e != nil {
		t.Errorf("Scan of nothing: %v, %d, %v", got, at, e)
	}
}

func TestSeals(t *testing.T) {
	for _, p := range []string{"", "a", "0123456789abcdefghijklmnopqr"} {
		s := Seal([]byte(p), 32)
		b, sound := Unseal(s)
		if len(s) != 32 || !sound || len(b) != 28 || string(bytes.TrimRight(b, "\x00")) != p || Blank(s) {
			t.Errorf("Seal(%s) = %x", p, s)
		}
		for bit := range 256 {
			c := bytes.Clone(s)
			c[bit/8] ^= 1 << (bit % 8)
			if b, sound := Unseal(c); sound || b != nil {
				t.Errorf("bit %d turned", bit)
			}
		}
	}
	if b, sound := Unseal(make([]byte, 32)); b != nil || !sound || !Blank(nil) || Blank([]byte{0, 1}) {
		t.Error("noughts are sound")
	}
	for _, v := range []int{0, 1, 255, 1<<40 - 2} {
		got, rest := TakeInt(append(AppendInt(nil, v, 5), 9), 5)
		if got != v || len(rest) != 1 {
			t.Errorf("TakeInt of %d: %d", v, got)
		}
	}
}
