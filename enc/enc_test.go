package enc

import (
	"bytes"
	"encoding/binary"
	"errors"
	"math"
	"math/rand"
	"testing"

	"pergola/api"
	"pergola/fault"
	"pergola/rel"
)

const far = api.MaxCoord

func object(kind int, v ...int) api.Object {
	o := api.Object{Kind: kind}
	for i := 0; i+1 < len(v); i += 2 {
		o.Points = append(o.Points, api.Point{X: v[i], Y: v[i+1]})
	}
	return o
}

// numbers is words at which groups begin and end.
func numbers() []uint64 {
	l := []uint64{0, 1, math.MaxUint64}
	for i := 1; i < 64; i++ {
		l = append(l, 1<<i-1, 1<<i, 1<<i+1)
	}
	return l
}

func TestP8_1Varint(t *testing.T) {
	for _, v := range numbers() {
		b := Varint(v)
		if !bytes.Equal(b, binary.AppendUvarint(nil, v)) {
			t.Fatalf("Varint(%d) = %x", v, b)
		}
		for _, tail := range []string{"", "\x00", "\xff\xff", "\x80"} {
			if got, n := Unvarint(append(bytes.Clone(b), tail...)); got != v || n != len(b) {
				t.Fatalf("Unvarint(%x) = %d, %d", b, got, n)
			}
		}
		for i := range b {
			if got, n := Unvarint(b[:i]); got != 0 || n != 0 {
				t.Fatalf("Unvarint(%x) = %d, %d", b[:i], got, n)
			}
		}
	}
	wrong := [][]byte{
		nil, {0x80}, {0x80, 0}, {0xff, 0}, {0xff, 0x80, 0}, bytes.Repeat([]byte{0xff}, 10), bytes.Repeat([]byte{0x80}, 11),
		append(bytes.Repeat([]byte{0xff}, 9), 2), append(bytes.Repeat([]byte{0xff}, 9), 0), append(bytes.Repeat([]byte{0xff}, 10), 1),
	}
	for _, b := range wrong {
		if got, n := Unvarint(b); got != 0 || n != 0 {
			t.Errorf("Unvarint(%x) = %d, %d", b, got, n)
		}
		if got, n, ok := Unsigned(b); got != 0 || n != 0 || ok {
			t.Errorf("Unsigned(%x) = %d, %d, %v", b, got, n, ok)
		}
	}
}

func TestP8_1Signed(t *testing.T) {
	for _, v := range numbers() {
		for _, n := range []int{int(v), -int(v), int(v >> 1), ^int(v >> 1)} {
			b := Signed(n)
			if !bytes.Equal(b, binary.AppendVarint(nil, int64(n))) {
				t.Fatalf("Signed(%d) = %x", n, b)
			}
			if got, size, ok := Unsigned(append(bytes.Clone(b), 0x80)); got != n || size != len(b) || !ok {
				t.Fatalf("Unsigned(%x) = %d, %d, %v", b, got, size, ok)
			}
		}
	}
	if !bytes.Equal(Signed(-1), []byte{1}) || !bytes.Equal(Signed(1), []byte{2}) {
		t.Error("the example")
	}
}

// ringOf is a simple polygon of n corners, as far as they may be.
func ringOf(n int) api.Object {
	o := object(api.KPolygon)
	for i := range n {
		x := 2*i - n
		o.Points = append(o.Points, api.Point{X: x * (far / n), Y: far - x*x*(far/(2*n*n))})
	}
	return o
}

func goodObjects() []api.Object {
	return []api.Object{
		object(api.KPoint, 1, -1), object(api.KPoint, -far, far), object(api.KInterval, -5, 700),
		object(api.KBox, 0, 0, 0, 0), object(api.KBox, -far, -far, far, far), object(api.KPolygon, 0, 0, 4, 0, 0, 4), ringOf(64),
	}
}

// isFault tells whether e is a Fault of these that is the error want.
func isFault(e error, op string, id int, want api.Errno) bool {
	var f *api.Fault
	return errors.As(e, &f) && f.Op == op && f.ID == id && errors.Is(e, want)
}

func TestP8_2Object(t *testing.T) {
	if b, e := Object(object(api.KPoint, 1, -1)); e != nil || !bytes.Equal(b, []byte{1, 1, 2, 1}) {
		t.Errorf("the example: %x, %v", b, e)
	}
	for _, o := range goodObjects() {
		b, e := Object(o)
		if e != nil {
			t.Fatalf("Object(%v): %v", o, e)
		}
		want := binary.AppendUvarint(binary.AppendUvarint(nil, uint64(o.Kind)), uint64(len(o.Points)))
		for _, p := range o.Points {
			want = binary.AppendVarint(binary.AppendVarint(want, int64(p.X)), int64(p.Y))
		}
		if !bytes.Equal(b, want) {
			t.Fatalf("Object(%v) = %x", o, b)
		}
		got, n, e := Unobject(append(bytes.Clone(b), 0xff, 1))
		if e != nil || n != len(b) || !rel.Same(got, o) {
			t.Fatalf("Unobject(%x) = %v, %d, %v", b, got, n, e)
		}
		for i := range b {
			if got, n, e := Unobject(b[:i]); got.Kind != 0 || got.Points != nil || n != 0 || !isFault(e, "object", 0, api.ErrBad) {
				t.Fatalf("Unobject(%x) = %v, %d, %v", b[:i], got, n, e)
			}
		}
	}
	for _, o := range []api.Object{{}, object(9, 1, 1), object(api.KPoint), object(api.KBox, 1, 0, 0, 0), object(api.KInterval, far+1, far+2), object(api.KPolygon, 0, 0, 1, 1, 2, 2)} {
		if b, e := Object(o); b != nil || !isFault(e, "object", o.Kind, fault.Code(rel.Check(o))) {
			t.Errorf("Object(%v) = %x, %v", o, b, e)
		}
	}
}

// nums is the Varints of l, one behind the other.
func nums(l ...uint64) []byte {
	b := []byte{}
	for _, v := range l {
		b = binary.AppendUvarint(b, v)
	}
	return b
}

func TestP8_2Unobject(t *testing.T) {
	wrong := [][]byte{
		nums(0, 0), nums(5, 1, 0, 0), nums(1<<63, 1, 0, 0), nums(math.MaxUint64, 1, 0, 0), nums(1<<32+1, 1, 0, 0),
		nums(1, 0), nums(1, 2, 0, 0, 0, 0), nums(1, 1<<32+1, 0, 0), nums(1, 1, 0), nums(1, 1, 2*far+2, 0), nums(1, 1, 0, 2*far+1),
		nums(2, 1, 4, 2), nums(3, 2, 2, 0, 0, 0), nums(4, 65), nums(4, math.MaxUint64), append(nums(4, 65), make([]byte, 130)...),
		nums(4, 3, 0, 0, 2, 2, 4, 4), {1, 0x81, 0, 2, 1}, {0x81, 0, 1, 2, 1}, {1, 1, 0x80, 0, 0},
	}
	for _, b := range wrong {
		if o, n, e := Unobject(b); o.Kind != 0 || o.Points != nil || n != 0 || !isFault(e, "object", 0, api.ErrBad) {
			t.Errorf("Unobject(%x) = %v, %d, %v", b, o, n, e)
		}
	}
	if o, n, e := Unobject(nums(1, 1, 2*far-1, 2*far)); e != nil || n != 12 || !rel.Same(o, object(api.KPoint, -far, far)) {
		t.Errorf("the farthest point: %v, %d, %v", o, n, e)
	}
}

func put(id int, o api.Object) api.Change {
	return api.Change{Kind: api.ChPut, Item: api.Item{ID: id, Obj: o}}
}

func del(id int) api.Change { return api.Change{Kind: api.ChDel, Item: api.Item{ID: id}} }

func TestP8_3Change(t *testing.T) {
	for _, id := range []int{0, 1, 127, 128, api.MaxID - 1, api.MaxID} {
		for _, o := range goodObjects() {
			own, _ := Object(o)
			for _, c := range []api.Change{put(id, o), del(id)} {
				want := nums(uint64(c.Kind), uint64(id))
				if c.Kind == api.ChPut {
					want = append(want, own...)
				}
				b, e := Change(c)
				if e != nil || !bytes.Equal(b, want) {
					t.Fatalf("Change(%v) = %x, %v", c, b, e)
				}
				got, n, e := Unchange(append(bytes.Clone(b), 7))
				if e != nil || n != len(b) || got.Kind != c.Kind || got.Item.ID != id || !rel.Same(got.Item.Obj, c.Item.Obj) {
					t.Fatalf("Unchange(%x) = %v, %d, %v", b, got, n, e)
				}
				for i := range b {
					if got, n, e := Unchange(b[:i]); got.Kind != 0 || got.Item.ID != 0 || got.Item.Obj.Points != nil || n != 0 || !isFault(e, "change", 0, api.ErrBad) {
						t.Fatalf("Unchange(%x) = %v, %d, %v", b[:i], got, n, e)
					}
				}
			}
		}
	}
}

func TestP8_3Refused(t *testing.T) {
	point := object(api.KPoint, 0, 0)
	cases := []struct {
		c    api.Change
		want api.Errno
	}{
		{api.Change{}, api.ErrArg},
		{api.Change{Kind: 3, Item: api.Item{ID: 4, Obj: point}}, api.ErrArg},
		{api.Change{Kind: -1}, api.ErrArg},
		{put(-1, point), api.ErrArg},
		{put(api.MaxID+1, point), api.ErrArg},
		{put(math.MinInt, api.Object{}), api.ErrArg},
		{del(-1), api.ErrArg},
		{del(api.MaxID + 1), api.ErrArg},
		{api.Change{Kind: api.ChDel, Item: api.Item{ID: 5, Obj: point}}, api.ErrArg},
		{api.Change{Kind: api.ChDel, Item: api.Item{ID: 5, Obj: api.Object{Kind: -9}}}, api.ErrArg},
		{api.Change{Kind: api.ChDel, Item: api.Item{ID: 5, Obj: object(0, 1, 1)}}, api.ErrArg},
		{put(7, api.Object{}), api.ErrKind},
		{put(7, object(api.KBox, 1, 1)), api.ErrVerts},
		{put(7, object(api.KPoint, far+1, 1)), api.ErrRange},
		{put(7, object(api.KPolygon, 0, 0, 4, 4, 4, 0, 0, 4)), api.ErrSimple},
	}
	for _, c := range cases {
		if b, e := Change(c.c); b != nil || !isFault(e, "change", c.c.Item.ID, c.want) {
			t.Errorf("Change(%v) = %x, %v", c.c, b, e)
		}
	}
	if _, e := Change(api.Change{Kind: api.ChDel, Item: api.Item{Obj: api.Object{Points: []api.Point{}}}}); e != nil {
		t.Errorf("an empty list is none: %v", e)
	}
	for _, b := range [][]byte{nil, nums(0, 1), nums(3, 1), nums(2, api.MaxID+1), nums(2, math.MaxUint64), nums(math.MaxUint64, 1), nums(1, 1), nums(1, 1, 5, 0), nums(1, api.MaxID+1, 1, 1, 0, 0), {2, 0x80, 0}} {
		if c, n, e := Unchange(b); c.Kind != 0 || c.Item.ID != 0 || n != 0 || !isFault(e, "change", 0, api.ErrBad) {
			t.Errorf("Unchange(%x) = %v, %d, %v", b, c, n, e)
		}
	}
}

// What is read by chance is written as it was.
func TestP8_4ReadAndWritten(t *testing.T) {
	r := rand.New(rand.NewSource(8))
	read := 0
	for range 100000 {
		b := make([]byte, r.Intn(14))
		for i := range b {
			b[i] = byte(r.Intn(5))
			if r.Intn(4) == 0 {
				b[i] = byte(r.Intn(256))
			}
		}
		before := bytes.Clone(b)
		if c, n, e := Unchange(b); e == nil {
			read++
			if again, e := Change(c); e != nil || !bytes.Equal(again, b[:n]) {
				t.Fatalf("Unchange(%x) = %v, Change of it %x, %v", b, c, again, e)
			}
		}
		if o, n, e := Unobject(b); e == nil {
			if again, e := Object(o); e != nil || !bytes.Equal(again, b[:n]) {
				t.Fatalf("Unobject(%x) = %v, Object of it %x, %v", b, o, again, e)
			}
		}
		if !bytes.Equal(b, before) {
			t.Fatal("what is handed in is changed")
		}
	}
	if read < 100 {
		t.Errorf("%d were read alone", read)
	}
}
