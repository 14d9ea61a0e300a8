package shell

import (
	"strconv"
	"strings"

	"pergola/api"
	"pergola/replay"
	"pergola/script"
)

const maxDigits = 9 // of a number

// kind is the op that a line's first word names; 0, if there is none.
func kind(verb string) int {
	switch verb {
	case "begin":
		return replay.Begin
	case "put":
		return replay.Put
	case "del":
		return replay.Del
	case "commit":
		return replay.Commit
	case "abort":
		return replay.Abort
	case "get":
		return replay.Get
	case "search":
		return replay.Search
	case "nearest":
		return replay.Nearest
	case "query":
		return replay.Query
	case "near":
		return replay.Near
	case "next":
		return replay.Next
	case "end":
		return replay.End
	case "bulk":
		return replay.Bulk
	case "vacuum":
		return replay.Vacuum
	case "close":
		return replay.Close
	case "cut":
		return replay.Cut
	case "crash", "tear":
		return replay.Crash
	}
	return 0
}

// parse is the op of a line; more tells whether there is a blank behind its first word, and rest is what is behind that.
func parse(verb, rest string, more bool) (o replay.Op, e error) {
	o.Kind = kind(verb)
	words := []string{}
	if more {
		words = strings.Split(rest, " ")
	}
	ok := true
	switch o.Kind {
	case replay.Begin, replay.Commit, replay.Abort, replay.Vacuum, replay.Close:
		ok = !more
	case replay.Del, replay.Get, replay.Next, replay.End:
		ok = numbers(words, &o.ID)
	case replay.Cut:
		ok = numbers(words, &o.N)
	case replay.Near:
		ok = len(words) == 1 && point(words[0], &o.Point)
	case replay.Nearest:
		ok = len(words) == 2 && point(words[0], &o.Point) && numbers(words[1:], &o.N)
	case replay.Crash:
		ok = crash(verb, words, &o)
	case replay.Search, replay.Query:
		if ok = more; ok {
			o.Query, e = script.ParseQuery(rest)
		}
	case replay.Put:
		i, f := item(rest)
		o.ID, o.Obj, e = i.ID, i.Obj, f
	case replay.Bulk:
		o.Items, e = items(rest)
	default:
		ok = false
	}
	if !ok {
		e = api.ErrArg
	}
	return o, e
}

// crash reads how a disk crashes: what is kept of what waits, and of `tear` which sector is torn.
func crash(verb string, words []string, o *replay.Op) bool {
	o.Torn = -1
	switch {
	case len(words) == 0:
		return false
	case verb == "tear":
		if !numbers(words[1:], &o.Torn) {
			return false
		}
		words = words[:1]
		fallthrough
	default:
		return len(words) == 1 && bits(words[0], o)
	}
}

// bits reads what is kept.
func bits(w string, o *replay.Op) bool {
	if w == "-" {
		return true
	}
	for _, c := range w {
		if c != '0' && c != '1' {
			return false
		}
		o.Keep = append(o.Keep, c == '1')
	}
	return w != ""
}

// item is an ID, a blank, and an object.
func item(s string) (api.Item, error) {
	i := api.Item{}
	word, text, more := strings.Cut(s, " ")
	if !more || !number(word, &i.ID) {
		return api.Item{}, api.ErrArg
	}
	o, e := script.Parse(text)
	if e != nil {
		return api.Item{}, e
	}
	i.Obj = o
	return i, nil
}

// items is all of a bulk; the first that is wrong decides.
func items(s string) ([]api.Item, error) {
	l := []api.Item{}
	for _, piece := range strings.Split(s, "; ") {
		i, e := item(piece)
		if e != nil {
			return nil, e
		}
		l = append(l, i)
	}
	return l, nil
}

// numbers reads as many numbers as there are words.
func numbers(words []string, to ...*int) bool {
	if len(words) != len(to) {
		return false
	}
	for i, w := range words {
		if !number(w, to[i]) {
			return false
		}
	}
	return true
}

// number reads decimal digits.
func number(w string, to *int) bool {
	n, e := strconv.Atoi(w)
	if e != nil || n < 0 || len(w) > maxDigits || strconv.Itoa(n) != w {
		return false
	}
	*to = n
	return true
}

// point reads two coordinates.
func point(w string, to *api.Point) bool {
	x, y, _ := strings.Cut(w, ",")
	return coordinate(x, &to.X) && coordinate(y, &to.Y)
}

// coordinate reads a number, or one below 0.
func coordinate(w string, to *int) bool {
	digits, below := strings.CutPrefix(w, "-")
	if !number(digits, to) || below && *to == 0 {
		return false
	}
	if below {
		*to = -*to
	}
	return true
}
