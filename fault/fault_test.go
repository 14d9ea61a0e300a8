package fault

import (
	"errors"
	"fmt"
	"slices"
	"testing"

	"pergola/api"
)

// panics is an error whose Unwrap does.
type panics struct{}

func (panics) Error() string { return "panics" }
func (panics) Unwrap() error { panic("no") }

// several wraps some, nil ones too; it can't be held against itself.
type several []error

func (l several) Error() string   { return fmt.Sprint(len(l)) }
func (l several) Unwrap() []error { return l }

// loop wraps itself.
type loop struct{ steps int }

func (l *loop) Error() string { return "loop" }
func (l *loop) Unwrap() error {
	l.steps++
	if l.steps > 1000 {
		return nil
	}
	return l
}

// liar says that it is whatever is asked for, but nothing is within it.
type liar struct{}

func (liar) Error() string { return "liar" }
func (liar) As(target any) bool {
	switch p := target.(type) {
	case *api.Errno:
		*p = api.ErrBad
	case **api.Fault:
		*p = &api.Fault{Op: "a"}
	default:
		return false
	}
	return true
}
func (liar) Is(error) bool { return true }

var plain = errors.New("plain")

func TestP7_1New(t *testing.T) {
	if e := New("a", 1, nil); e != nil {
		t.Errorf("of nil: %v", e)
	}
	e := New("a", -7, plain)
	f, ok := e.(*api.Fault)
	if !ok || *f != (api.Fault{Op: "a", ID: -7, Err: plain}) {
		t.Errorf("New = %v", e)
	}
	var none *api.Fault
	if e := New("a", 1, none); e == nil || errors.Unwrap(e) != error(none) {
		t.Errorf("of a Fault that is nil: %v", e)
	}
}

func TestP7_1Code(t *testing.T) {
	var none *api.Fault
	cases := []struct {
		e    error
		want api.Errno
	}{
		{nil, 0},
		{plain, 0},
		{none, 0},
		{panics{}, 0},
		{liar{}, 0},
		{api.ErrTx, api.ErrTx},
		{New("a", 1, New("b", 2, api.ErrFull)), api.ErrFull},
		{fmt.Errorf("x: %w", api.ErrPin), api.ErrPin},
		{fmt.Errorf("x: %w, %w", plain, api.ErrPin), api.ErrPin},
		{Join(New("a", 1, Join(plain, api.ErrDup)), api.ErrBad), api.ErrDup},
		{several{nil, New("a", 1, nil), several{}, panics{}, several{nil, api.ErrArg}, api.ErrBad}, api.ErrArg},
		{several{liar{}, New("a", 1, none), api.Errno(99)}, 99},
		{New("a", 1, several{New("b", 1, plain), New("c", 1, api.ErrNone), api.ErrDup}), api.ErrNone},
	}
	for i, c := range cases {
		if got := Code(c.e); got != c.want {
			t.Errorf("%d: Code(%v) = %d", i, c.e, got)
		}
	}
}

func TestP7_1RootAndDeep(t *testing.T) {
	joined := Join(api.ErrArg, plain)
	bare := &api.Fault{Op: "bare"}
	cases := []struct {
		e, root error
		deep    int
	}{
		{nil, nil, 0},
		{plain, plain, 0},
		{bare, bare, 0},
		{joined, joined, 0},
		{New("a", 1, joined), joined, 1},
		{New("a", 1, fmt.Errorf("x: %w", New("b", 2, api.ErrOff))), api.ErrOff, 3},
		{New("a", 1, panics{}), panics{}, 1},
	}
	for i, c := range cases {
		if got := Root(c.e); got != c.root || Deep(c.e) != c.deep {
			t.Errorf("%d: Root(%v) = %v, %d deep", i, c.e, got, Deep(c.e))
		}
	}
	var none *api.Fault
	if e := New("a", 1, none); Root(e) != error(none) || Deep(e) != 1 {
		t.Errorf("Root of a Fault that is nil: %v", Root(e))
	}
}

func TestP7_2ChainAndFind(t *testing.T) {
	var none *api.Fault
	shared := New("s", 5, api.ErrBad)
	deep := New("a", 1, several{nil, New("b", 2, none), Join(shared, New("c", 3, nil), plain), fmt.Errorf("%w, %w", shared, New("b", 9, New("d", 4, api.ErrOff))), none, liar{}})
	if got := Chain(deep); !slices.Equal(got, []string{"a", "b", "s", "s", "b", "d"}) {
		t.Errorf("Chain = %v", got)
	}
	for _, e := range []error{nil, plain, none, panics{}, liar{}, several{}} {
		if got := Chain(e); len(got) != 0 {
			t.Errorf("Chain(%v) = %v", e, got)
		}
		if f, ok := Find(e, "a"); f != nil || ok {
			t.Errorf("Find(%v) = %v", e, f)
		}
	}
	if f, ok := Find(deep, "b"); !ok || f.ID != 2 {
		t.Errorf("Find b: %v, %v", f, ok)
	}
	if f, ok := Find(deep, "d"); !ok || f.ID != 4 {
		t.Errorf("Find d: %v, %v", f, ok)
	}
	if f, ok := Find(deep, "a"); !ok || error(f) != deep {
		t.Errorf("Find a: %v, %v", f, ok)
	}
	for _, op := range []string{"c", "", "x"} {
		if f, ok := Find(deep, op); ok || f != nil {
			t.Errorf("Find %q: %v", op, f)
		}
	}
}

func TestP7_3JoinAndFirst(t *testing.T) {
	if Join() != nil || Join(nil, nil) != nil || First() != nil || First(nil, nil) != nil {
		t.Error("of nil ones nil")
	}
	l := []error{nil, plain, nil, api.ErrDup}
	e := Join(l...)
	got := e.(interface{ Unwrap() []error }).Unwrap()
	if !slices.Equal(got, []error{plain, api.ErrDup}) || !errors.Is(e, plain) || !errors.Is(e, api.ErrDup) {
		t.Errorf("Join wraps %v", got)
	}
	l[1] = api.ErrBad
	if errors.Is(e, api.ErrBad) {
		t.Error("what is handed in is not kept")
	}
	if First(nil, api.ErrTx, plain) != api.ErrTx {
		t.Error("First")
	}
	if one := Join(nil, plain); one == plain || !errors.Is(one, plain) {
		t.Errorf("one alone is wrapped: %v", one)
	}
}

func TestP7_4IsAndAs(t *testing.T) {
	for _, e := range []error{plain, api.ErrArg, New("b", 2, plain), Join(plain, api.ErrDup), &loop{}} {
		n := New("a", 1, e)
		if !errors.Is(n, e) {
			t.Errorf("New of %v is not it", e)
		}
		var f *api.Fault
		if !errors.As(n, &f) || f.Op != "a" || f.ID != 1 {
			t.Errorf("As of %v finds %v", n, f)
		}
		if got, ok := Outer(n); !ok || got != f {
			t.Errorf("Outer of %v is %v", n, got)
		}
	}
	var none *api.Fault
	for _, e := range []error{nil, plain, none} {
		if f, ok := Outer(e); ok || f != nil {
			t.Errorf("Outer of %v is %v", e, f)
		}
	}
	if !Ends(New("a", 1, api.ErrNone)) || Ends(New("a", 1, api.ErrBad)) || Ends(nil) {
		t.Error("ErrNone ends")
	}
}

// A Fault that is within itself: all calls end.
func TestRoundAndRound(t *testing.T) {
	f := &api.Fault{Op: "f"}
	f.Err = f
	g := &api.Fault{Op: "g", Err: several{plain, f}}
	f.Err = Join(g, api.ErrDup)
	if Code(f) != api.ErrDup || Code(g) != api.ErrDup || !slices.Equal(Chain(f), []string{"f", "g"}) {
		t.Errorf("Code %d, Chain %v", Code(f), Chain(f))
	}
	if _, ok := Find(g, "f"); !ok {
		t.Error("Find f")
	}
	f.Err = f
	if Root(f) != error(f) || Deep(f) != 0 || Code(f) != 0 || len(Chain(f)) != 1 {
		t.Errorf("Root %v, Deep %d", Root(f) == error(f), Deep(f))
	}
	f.Err = g
	g.Err = f
	if Root(f) != error(g) || Deep(g) != 1 {
		t.Errorf("Deep %d", Deep(g))
	}
	if Deep(&loop{}) != 1000 || Code(&loop{}) != 0 {
		t.Error("a long way")
	}
}

func TestLongWay(t *testing.T) {
	e := error(api.ErrPin)
	for i := range 200000 {
		e = New("a", i, e)
	}
	if Code(e) != api.ErrPin || Deep(e) != 200000 || Root(e) != api.ErrPin || len(Chain(e)) != 200000 {
		t.Error("a long chain")
	}
}
