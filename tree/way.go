package tree

import (
	"slices"

	"tidemark/api"
	"tidemark/heap"
)

// step is a node on a way down, and which of its entries the way goes by.
type step struct {
	node *node
	i    int
}

// way leads from the root down to a key: at each level by the last entry whose key is not above it (the first one, if
// there is none such), and in the leaf to the key's own entry, or to the place where it would stand. What is changed on
// it is written by save, all at once.
type way struct {
	tree    *tree
	key     packed
	steps   []step
	there   bool
	changed []*node
}

// find opens a tree and goes down to a key.
func find(h *heap.Heap, t uint64, key []byte) (*way, api.Errno) {
	r, e := open(h, t, key)
	if e != api.OK {
		return nil, e
	}
	return r.down(pack(key))
}

// down is the way to a key.
func (t *tree) down(k packed) (*way, api.Errno) {
	w := &way{tree: t, key: k}
	x := t.root
	for level := range t.height {
		n, e := t.node(x, level)
		if e != api.OK {
			return nil, e
		}
		i, same, e := t.below(n, k)
		if e != api.OK {
			return nil, e
		}
		if t.isLeaf(level) {
			w.there = same
		} else {
			if !same {
				i = max(i-1, 0)
			}
			x = n.entries[i].ref
		}
		w.steps = append(w.steps, step{node: n, i: i})
	}
	return w, api.OK
}

// entry is the entry of a key that is there.
func (w *way) entry() entry {
	leaf := w.steps[len(w.steps)-1]
	return leaf.node.entries[leaf.i]
}

// next tells the first entry whose key is not below the way's; false: there is none.
func (w *way) next() (entry, bool, api.Errno) {
	for level := len(w.steps) - 1; level >= 0; level-- {
		s := w.steps[level]
		if !w.tree.isLeaf(level) {
			s.i++
		}
		if s.i < len(s.node.entries) {
			return w.tree.edge(s.node.entries[s.i], level+1, false)
		}
	}
	return entry{}, false, api.OK
}

// previous tells the last entry whose key is below the way's; false: there is none.
func (w *way) previous() (entry, bool, api.Errno) {
	for level := len(w.steps) - 1; level >= 0; level-- {
		s := w.steps[level]
		if s.i > 0 {
			return w.tree.edge(s.node.entries[s.i-1], level+1, true)
		}
	}
	return entry{}, false, api.OK
}

// last tells the last entry of all; false: there is none.
func (t *tree) last() (entry, bool, api.Errno) {
	if t.height == 0 {
		return entry{}, false, api.OK
	}
	return t.edge(entry{ref: t.root}, 0, true)
}

// edge tells a leaf's entry below x, whose node is at a level: the first one, or the last one.
func (t *tree) edge(x entry, level int, last bool) (entry, bool, api.Errno) {
	for i := range t.height - level {
		n, e := t.node(x.ref, level+i)
		if e != api.OK {
			return entry{}, false, e
		}
		x = n.entries[0]
		if last {
			x = n.entries[len(n.entries)-1]
		}
	}
	return x, true, api.OK
}

// tell tells the key and the ref of an entry, if there is one.
func (t *tree) tell(x entry, ok bool, e api.Errno) ([]byte, uint64, bool, api.Errno) {
	if e != api.OK || !ok {
		return nil, 0, false, e
	}
	k, e := readKey(t.heap, x.key)
	if e != api.OK {
		return nil, 0, false, e
	}
	return k.bytes(), x.ref, true, api.OK
}

// change says that a node is to be written.
func (w *way) change(n *node) {
	if !slices.Contains(w.changed, n) {
		w.changed = append(w.changed, n)
	}
}

// rename makes the nodes above a level know those on the way by their first keys.
func (w *way) rename(level int) {
	for ; level > 0; level-- {
		up, n := w.steps[level-1], w.steps[level].node
		if up.node.entries[up.i].key != n.entries[0].key {
			up.node.entries[up.i].key = n.entries[0].key
			w.change(up.node)
		}
	}
}

// save writes what was changed.
func (w *way) save() {
	for _, n := range w.changed {
		w.tree.store(n)
	}
	w.tree.save()
}
