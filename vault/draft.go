package vault

import (
	"maps"
	"slices"

	"pergola/api"
	"pergola/enc"
	"pergola/fault"
	"pergola/rel"
)

// entry is what is under an id; a zero one says that nothing is.
type entry struct {
	obj   api.Object
	bytes int // the object's
}

// weight is an entry's part of the map's.
func (n entry) weight() int {
	if n.bytes == 0 {
		return 0
	}
	return perItem + n.bytes
}

// draft is changes to a map that are not done yet.
type draft struct {
	items  map[int]entry // the map
	now    map[int]entry // what is under each id that was changed
	weight int           // of the map, were they done
	log    []byte        // the changes, one behind the other
}

func (v *Vault) draft() *draft {
	return &draft{items: v.items, now: map[int]entry{}, weight: v.weight}
}

// get is what is under an id, were the changes done.
func (d *draft) get(id int) entry {
	if n, changed := d.now[id]; changed {
		return n
	}
	return d.items[id]
}

// do does one change more, or tells why it is refused.
func (d *draft) do(c api.Change) error {
	b, e := enc.Change(c)
	if e != nil {
		return e
	}
	return d.doLaid(c, b)
}

// doLaid does one change more, which may be and which b lays.
func (d *draft) doLaid(c api.Change, b []byte) error {
	id, was, n := c.Item.ID, d.get(c.Item.ID), entry{}
	switch there := was.bytes > 0; {
	case c.Kind == api.ChPut && there:
		return api.ErrDup
	case c.Kind == api.ChPut:
		n.obj = rel.Clone(c.Item.Obj)
		n.bytes = len(b) - len(enc.Varint(api.ChPut)) - len(enc.Varint(uint64(id)))
	case !there:
		return api.ErrAbsent
	}
	d.weight += n.weight() - was.weight()
	d.now[id] = n
	d.log = append(d.log, b...)
	return nil
}

// doAll does changes, one behind the other; of the first that is refused it tells why, and its id.
func (d *draft) doAll(l []api.Change) error {
	for _, c := range l {
		if e := d.do(c); e != nil {
			return fault.New("vault", c.Item.ID, e)
		}
	}
	return nil
}

// take does what a draft has.
func (v *Vault) take(d *draft) {
	for id, n := range d.now {
		if n.bytes == 0 {
			delete(v.items, id)
		} else {
			v.items[id] = n
		}
	}
	v.weight = d.weight
}

// all is the map as puts, were the changes done, by rising id.
func (d *draft) all() []byte {
	whole := maps.Clone(d.items)
	maps.Copy(whole, d.now)
	b := []byte{}
	for _, id := range slices.Sorted(maps.Keys(whole)) {
		if n := whole[id]; n.bytes > 0 {
			b = enc.AppendChange(b, put(api.Item{ID: id, Obj: n.obj}))
		}
	}
	return b
}

// put is the change that puts an item in.
func put(i api.Item) api.Change { return api.Change{Kind: api.ChPut, Item: i} }
