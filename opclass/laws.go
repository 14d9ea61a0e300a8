package opclass

import (
	"bytes"
	"slices"

	"pergola/api"
	"pergola/plane"
	"pergola/ratio"
	"pergola/rel"
)

// The laws that a class keeps, by their numbers.
const (
	none      = iota
	keyLaw    // keys are short
	queryLaw  // keys are consistent with what matches
	distLaw   // keys are no farther than objects
	unionLaw  // unions keep these too
	splitLaw  // splits have two sides
	atNothing = -1
)

// quiet is what f answers; zero, if it panics: a class that comes in may do so.
func quiet[T any](f func() T) (v T) {
	defer func() { recover() }()
	return f()
}

// taken is an object that a class takes.
type taken struct {
	at  int
	obj api.Object
	key []byte
}

// take is what a class takes of l, of objects that may be.
func take(c Class, l []api.Object) []taken {
	all := []taken{}
	for i, o := range l {
		if rel.Check(o) != nil {
			continue
		}
		key, ok := made(c, o)
		if ok {
			all = append(all, taken{i, o, key})
		}
	}
	return all
}

// made is an object's key, and whether the class takes the object.
func made(c Class, o api.Object) ([]byte, bool) {
	type answer struct {
		key  []byte
		told bool
		e    error
	}
	a := quiet(func() answer {
		key, e := c.Make(rel.Clone(o))
		return answer{bytes.Clone(key), true, e}
	})
	return a.key, a.told && a.e == nil
}

// Covers tells whether a key covers objects.
func Covers(c Class, key []byte, l []api.Object, q []api.Query, p []api.Point) bool {
	if c == nil {
		return false
	}
	for _, o := range l {
		if rel.Check(o) == nil && !(findable(c, key, o, q) && near(c, key, o, p)) {
			return false
		}
	}
	return true
}

// findable tells whether a key is consistent with all queries that o matches.
func findable(c Class, key []byte, o api.Object, l []api.Query) bool {
	for _, q := range l {
		if rel.Match(o, q) && !quiet(func() bool { return c.Consistent(key, q) }) {
			return false
		}
	}
	return true
}

// near tells whether a key is no farther from all points than o.
func near(c Class, key []byte, o api.Object, l []api.Point) bool {
	for _, p := range l {
		if plane.CheckPoint(p) != nil {
			continue
		}
		d := quiet(func() api.Dist { return c.Dist(key, p) })
		if !ratio.Sound(d) || ratio.Compare(d, rel.Far(o, p)) > 0 {
			return false
		}
	}
	return true
}

// Laws is the first law that is broken, and at which object.
func Laws(c Class, l []api.Object, q []api.Query, p []api.Point) (law, at int) {
	if c == nil {
		return keyLaw, 0
	}
	all := take(c, l)
	for _, t := range all {
		if len(t.key) > api.MaxKey {
			return keyLaw, t.at
		}
	}
	for _, t := range all {
		switch {
		case !findable(c, t.key, t.obj, q):
			return queryLaw, t.at
		case !near(c, t.key, t.obj, p):
			return distLaw, t.at
		}
	}
	switch {
	case len(all) > 0 && !unites(c, all, q, p):
		return unionLaw, 0
	case len(all) > 1 && !splits(c, keysOf(all)):
		return splitLaw, 0
	}
	return none, atNothing
}

// keysOf is the keys of all, each a copy.
func keysOf(all []taken) [][]byte {
	keys := [][]byte{}
	for _, t := range all {
		keys = append(keys, bytes.Clone(t.key))
	}
	return keys
}

// unites tells whether the union of all keys covers all objects.
func unites(c Class, all []taken, q []api.Query, p []api.Point) bool {
	union := quiet(func() []byte { return c.Union(keysOf(all)) })
	objects := []api.Object{}
	for _, t := range all {
		objects = append(objects, t.obj)
	}
	return len(union) <= api.MaxKey && Covers(c, union, objects, q, p)
}

// splits tells whether there is an answer for each key, and both sides have some.
func splits(c Class, keys [][]byte) bool {
	second := quiet(func() []bool { return c.Split(keys) })
	return len(second) == len(keys) && slices.Contains(second, true) && slices.Contains(second, false)
}
