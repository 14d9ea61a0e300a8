package script

import (
	"errors"
	"math"
	"slices"
	"strings"
	"testing"

	"pergola/api"
	"pergola/rel"
	"pergola/replay"
)

const far = api.MaxCoord

func at(x, y int) api.Point { return api.Point{X: x, Y: y} }

func object(kind int, v ...int) api.Object {
	o := api.Object{Kind: kind}
	for i := 0; i+1 < len(v); i += 2 {
		o.Points = append(o.Points, at(v[i], v[i+1]))
	}
	return o
}

// isBad tells whether e is what a text that is none's tells.
func isBad(e error) bool {
	var f *api.Fault
	return errors.As(e, &f) && f.Op == "script" && f.ID == 0 && errors.Is(e, api.ErrBad)
}

func TestP29_1Objects(t *testing.T) {
	cases := map[string]api.Object{
		"point 0,0":                      object(api.KPoint, 0, 0),
		"point -7,1073741823":            object(api.KPoint, -7, far),
		"interval 0 0":                   object(api.KInterval, 0, 0),
		"interval -1073741823 10":        object(api.KInterval, -far, 10),
		"box 0,0 2,3":                    object(api.KBox, 0, 0, 2, 3),
		"box -1,-2 -1,-2":                object(api.KBox, -1, -2, -1, -2),
		"poly 0,0 4,0 0,4":               object(api.KPolygon, 0, 0, 4, 0, 0, 4),
		"poly 0,0 4,0 4,4 2,1 0,4":       object(api.KPolygon, 0, 0, 4, 0, 4, 4, 2, 1, 0, 4),
		"poly 0,100 -100,0 0,-100 100,0": object(api.KPolygon, 0, 100, -100, 0, 0, -100, 100, 0),
	}
	for s, o := range cases {
		if got := Object(o); got != s {
			t.Errorf("Object(%v) = %q", o, got)
		}
		if got, e := Parse(s); e != nil || !rel.Same(got, o) {
			t.Errorf("Parse(%q) = %v, %v", s, got, e)
		}
		for _, wrong := range []string{" " + s, s + " ", s + "\n", "x" + s, strings.Replace(s, " ", "  ", 1), strings.Replace(s, "0", "00", 1), strings.Replace(s, "0", "-0", 1), strings.Replace(s, "0", "+0", 1), strings.Replace(s, "1", "01", 1), strings.ToUpper(s), strings.Replace(s, ",", " ,", 1), strings.Replace(s, " ", "\t", 1)} {
			if wrong == s {
				continue
			}
			if got, e := Parse(wrong); got.Kind != 0 || got.Points != nil || !isBad(e) {
				t.Errorf("Parse(%q) = %v, %v", wrong, got, e)
			}
		}
	}
}

func TestP29_1WrongObjects(t *testing.T) {
	for _, o := range []api.Object{{}, object(9, 1, 1), object(api.KPoint), object(api.KPoint, far+1, 0), object(api.KInterval, 2, 1), object(api.KBox, 1, 1, 0, 0), object(api.KPolygon, 0, 0, 1, 1, 2, 2), {Kind: api.KPolygon, Points: make([]api.Point, 65)}} {
		if s := Object(o); s != "" {
			t.Errorf("Object(%v) = %q", o, s)
		}
	}
	for _, s := range []string{"", " ", "point", "point ", "point 1", "point 1,", "point ,1", "point 1,2,3", "point 1,2 3,4", "point 1073741824,0", "point 99999999999999999999,0", "point 0x1,0", "point 1_0,0", "point a,b",
		"interval", "interval 1", "interval 1,2", "interval 2 1", "interval 1 2 3", "interval 1 2,3", "box 0,0", "box 1,1 0,0", "box 0,0 1,1 2,2", "box 0 0 1 1", "poly", "poly 0,0 1,1", "poly 0,0 1,1 2,2",
		"poly" + strings.Repeat(" 0,0", 65), "poly" + strings.Repeat(" 1,1", 100000), "ring 0,0 4,0 0,4", "0,0", "has 0,0", "point 0,0;", "point 0,0\x00"} {
		if o, e := Parse(s); o.Kind != 0 || o.Points != nil || !isBad(e) {
			t.Errorf("Parse(%.40q) = %v, %v", s, o, e)
		}
	}
}

func sameQuery(a, b api.Query) bool {
	return a.Kind == b.Kind && a.Box == b.Box && slices.Equal(a.Ring, b.Ring)
}

func TestP29_1Queries(t *testing.T) {
	junk := object(0, 5, 5).Points
	cases := map[string]api.Query{
		"meets 0,0 2,3":     {Kind: api.QMeets, Box: api.Box{Hi: at(2, 3)}, Ring: junk},
		"inside -5,0 -5,7":  {Kind: api.QInside, Box: api.Box{Lo: at(-5, 0), Hi: at(-5, 7)}, Ring: junk},
		"has 1073741823,-4": {Kind: api.QHas, Box: api.Box{Lo: at(far, -4), Hi: at(9, math.MinInt)}, Ring: junk},
		"cross 0,0 4,0 0,4": {Kind: api.QCross, Box: api.Box{Lo: at(8, 8)}, Ring: object(0, 0, 0, 4, 0, 0, 4).Points},
	}
	for s, q := range cases {
		if got := Query(q); got != s {
			t.Errorf("Query(%v) = %q", q, got)
		}
		want := q
		switch q.Kind {
		case api.QHas:
			want.Box.Hi, want.Ring = api.Point{}, nil
		case api.QCross:
			want.Box = api.Box{}
		default:
			want.Ring = nil
		}
		if got, e := ParseQuery(s); e != nil || !sameQuery(got, want) {
			t.Errorf("ParseQuery(%q) = %v, %v", s, got, e)
		}
		for _, wrong := range []string{" " + s, s + " ", s + " 9,9", strings.Replace(s, " ", "  ", 1), strings.Replace(s, "0", "00", 1), strings.Replace(s, "4", "+4", 1)} {
			if wrong == s || strings.HasPrefix(s, "cross") && strings.HasSuffix(wrong, " 9,9") {
				continue
			}
			if got, e := ParseQuery(wrong); !sameQuery(got, api.Query{}) || !isBad(e) {
				t.Errorf("ParseQuery(%q) = %v, %v", wrong, got, e)
			}
		}
	}
	for _, s := range []string{"", " ", "meets", "meets 0,0", "meets 1,1 0,0", "meets 0,0 1,1 2,2", "inside 0,0", "has", "has 1", "has 0,0 0,0", "has 1073741824,0", "cross", "cross 0,0 1,1", "cross 0,0 1,1 2,2", "point 0,0", "box 0,0 1,1", "0,0"} {
		if q, e := ParseQuery(s); !sameQuery(q, api.Query{}) || !isBad(e) {
			t.Errorf("ParseQuery(%q) = %v, %v", s, q, e)
		}
	}
	for _, q := range []api.Query{{}, {Kind: 7}, {Kind: api.QMeets, Box: api.Box{Lo: at(1, 0)}}, {Kind: api.QHas, Box: api.Box{Lo: at(far+1, 0)}}, {Kind: api.QCross}} {
		if s := Query(q); s != "" {
			t.Errorf("Query(%v) = %q", q, s)
		}
	}
}

func TestP29_2Answer(t *testing.T) {
	near := func(id int, lo, den uint64) api.Near {
		return api.Near{ID: id, Dist: api.Dist{Lo: lo, Den: den}}
	}
	cases := []struct {
		a    replay.Answer
		want string
	}{
		{replay.Answer{}, "ok"},
		{replay.Answer{Code: api.ErrTx}, "error 11"},
		{replay.Answer{Code: api.ErrTx, Ops: []string{"db"}}, "error 11: db"},
		{replay.Answer{Code: -4, Ops: []string{"db", "stage", "model"}, IDs: []int{1}}, "error -4: db stage model"},
		{replay.Answer{Ops: []string{"db"}}, "ok"},
		{replay.Answer{IDs: []int{1, 0, -7, api.MaxID}}, "ok 1 0 -7 1099511627776"},
		{replay.Answer{Nears: []api.Near{near(1, 25, 1), near(2, 6, 4), near(3, 0, 5), near(4, 1, 0)}}, "ok 1@25 2@3/2 3@0 4@none"},
		{replay.Answer{Has: true, Obj: object(api.KPoint, 1, 2)}, "ok [point 1,2]"},
		{replay.Answer{Obj: object(api.KPoint, 1, 2)}, "ok"},
		{replay.Answer{Has: true}, "ok []"},
		{replay.Answer{IDs: []int{4}, Nears: []api.Near{near(1, 1, 1)}, Has: true, Obj: object(api.KInterval, 1, 2)}, "ok 4 1@1 [interval 1 2]"},
	}
	for _, c := range cases {
		if got := Answer(c.a); got != c.want {
			t.Errorf("Answer(%v) = %q, not %q", c.a, got, c.want)
		}
	}
}
