package gist

import (
	"bytes"
	"slices"

	"pergola/api"
	"pergola/plane"
	"pergola/ratio"
	"pergola/rel"
)

// node is one of a tree.
type node struct {
	up   *node // nil of the root
	leaf bool
	kids []entry
}

// entry is an item of a leaf, or what is below an inner node; its key is the union of all that is there.
type entry struct {
	key  []byte
	down *node
	id   int
}

// keys is those of l.
func keys(l []entry) [][]byte {
	k := make([][]byte, len(l))
	for i := range l {
		k[i] = l[i].key
	}
	return k
}

// choose is the leaf that grows least by a key.
func (t *Tree) choose(key []byte) *node {
	n := t.root
	for !n.leaf {
		n = n.kids[t.closest(n, nil, key)].down
	}
	return n
}

// closest is the place in n of what grows least by a key, but of what is not asked.
func (t *Tree) closest(n, not *node, key []byte) int {
	best, least := -1, 0
	for i, k := range n.kids {
		if k.down == not {
			continue
		}
		if grows := t.class.Penalty(k.key, key); best < 0 || grows < least {
			best, least = i, grows
		}
	}
	return best
}

// adopt puts entries into n.
func (t *Tree) adopt(n *node, l ...entry) {
	for _, k := range l {
		n.kids = append(n.kids, k)
		if n.leaf {
			t.items[k.id].leaf = n
		} else {
			k.down.up = n
		}
	}
}

// entryOf is n as an entry of a node above it.
func (t *Tree) entryOf(n *node) entry {
	return entry{key: bytes.Clone(t.class.Union(keys(n.kids))), down: n}
}

// place is where n stands in its parent.
func (n *node) place() int {
	return slices.IndexFunc(n.up.kids, func(k entry) bool { return k.down == n })
}

// mend brings the tree in order, from a node that has got an entry more or less up to the root.
func (t *Tree) mend(n *node) {
	for ; n != nil; n = n.up {
		switch {
		case n.up != nil && len(n.kids) < t.least:
			t.dissolve(n)
		case len(n.kids) > t.fan:
			t.split(n)
			fallthrough // its parent has one more now, and may be too full next
		default:
			if n.up != nil {
				n.up.kids[n.place()] = t.entryOf(n)
			}
		}
	}
	t.lower()
}

// split gives part of n's entries to a new node beside it.
func (t *Tree) split(n *node) {
	if n.up == nil {
		t.root = &node{}
		t.adopt(t.root, entry{down: n})
	}
	first, second := t.halves(n.kids, t.least)
	n.kids = nil
	t.adopt(n, first...)
	other := &node{leaf: n.leaf}
	t.adopt(other, second...)
	t.adopt(n.up, t.entryOf(other))
}

// dissolve gives n's few entries to the node beside it that grows least by them.
func (t *Tree) dissolve(n *node) {
	e, up := t.entryOf(n), n.up
	to := up.kids[t.closest(up, n, e.key)].down
	up.kids = slices.Delete(up.kids, n.place(), n.place()+1)
	t.adopt(to, n.kids...)
	if len(to.kids) > t.fan {
		t.split(to)
	}
	up.kids[to.place()] = t.entryOf(to)
}

// lower takes a root away that is not needed.
func (t *Tree) lower() {
	for !t.root.leaf && len(t.root.kids) == 1 {
		t.root = t.root.kids[0].down
		t.root.up = nil
	}
	if len(t.root.kids) == 0 {
		t.root = nil
	}
}

// halves is l in two parts, as the class splits it, but none of fewer than least.
// There must be twice as many at least.
func (t *Tree) halves(l []entry, least int) (first, second []entry) {
	goes := t.class.Split(keys(l))
	for i, k := range l {
		if i < len(goes) && goes[i] {
			second = append(second, k)
		} else {
			first = append(first, k)
		}
	}
	return level(first, second, least)
}

// level moves entries from the greater part to the lesser one, until that has least.
func level(first, second []entry, least int) (a, b []entry) {
	if n := len(first) - (least - len(second)); len(second) < least {
		first, second = first[:n:n], append(second, first[n:]...)
	}
	if n := len(second) - (least - len(first)); len(first) < least {
		first, second = append(first, second[n:]...), second[:n:n]
	}
	return first, second
}

// groups is l in parts of at most fan, and of at least as many as a node needs, if there are so many.
func (t *Tree) groups(l []entry) [][]entry {
	if len(l) <= t.fan {
		return [][]entry{l}
	}
	// A quarter at least, so that no class makes this long.
	first, second := t.halves(l, max(t.least, len(l)/4))
	return append(t.groups(first), t.groups(second)...)
}

// plant makes a tree of l, level by level, from the leaves up.
func (t *Tree) plant(l []entry) {
	t.root = nil
	for leaf := true; len(l) > 0 && (leaf || len(l) > 1); leaf = false {
		above := []entry{}
		for _, g := range t.groups(l) {
			n := &node{leaf: leaf}
			t.adopt(n, g...)
			above = append(above, t.entryOf(n))
			t.root = n
		}
		l = above
	}
}

// Sound tells whether its rules hold.
func (t *Tree) Sound() bool {
	if t.Len() == 0 {
		return t.none() || t.root == nil
	}
	ids, ok := t.sound(t.root, t.Depth())
	return ok && len(ids) == len(t.items) && t.root.up == nil
}

// sound tells whether all is right below n, which has depth levels, and which ids are there.
func (t *Tree) sound(n *node, depth int) (ids []int, ok bool) {
	if len(n.kids) == 0 || len(n.kids) > t.fan || n.leaf != (depth == 1) {
		return nil, false
	}
	for _, k := range n.kids {
		below := []int{k.id}
		if !n.leaf {
			if below, ok = t.sound(k.down, depth-1); !ok || k.down.up != n {
				return nil, false
			}
		}
		for _, id := range below {
			if x := t.items[id]; x == nil || n.leaf && x.leaf != n || !t.covers(k.key, x.obj) {
				return nil, false
			}
		}
		ids = append(ids, below...)
	}
	return ids, true
}

// covers tells whether a key finds an object, as far as its bounds and one of its points tell it.
func (t *Tree) covers(key []byte, o api.Object) bool {
	b, e := rel.Bounds(o)
	if e != nil {
		return false
	}
	p := b.Lo
	if o.Kind == api.KPolygon {
		p = o.Points[0]
	}
	has := api.Query{Kind: api.QHas, Box: plane.Around([]api.Point{p})}
	meets := api.Query{Kind: api.QMeets, Box: b}
	return t.class.Consistent(key, has) && t.class.Consistent(key, meets) && ratio.Compare(t.class.Dist(key, p), ratio.Of(0)) == 0
}
