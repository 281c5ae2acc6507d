package tree

import (
	"tidemark/api"
)

// A node has at most so many entries, and at least so many, but the root.
const (
	most  = 16
	least = most / 2
)

// nodeRefs is how many refs a node has: two of each entry it may have. It has no scalars: its entries stand first, each
// with a key that is not 0, and all behind them is 0.
const nodeRefs = 2 * most

// entry is a key's object, and what goes with it: in a leaf the ref that was put, in another node a node below, of which
// it is the first key's object.
type entry struct {
	key, ref uint64
}

// node is the entries of a node, by rising keys, and its handle.
type node struct {
	self    uint64
	entries []entry
}

// asEntry is what the node above knows a node by.
func (n *node) asEntry() entry {
	return entry{key: n.entries[0].key, ref: n.self}
}

// node reads the node of a handle, at a level.
func (t *tree) node(x uint64, level int) (*node, api.Errno) {
	tag, refs, size, _ := t.heap.Head(x)
	if tag != t.tagAt(level) || refs != nodeRefs || size != nodeRefs {
		return nil, api.ErrForm
	}
	n := &node{self: x, entries: make([]entry, 0, most+1)}
	for i := range most {
		key, _ := t.heap.Ref(x, 2*i)
		ref, _ := t.heap.Ref(x, 2*i+1)
		if key == 0 && ref == 0 {
			continue
		}
		// An entry without a key, or behind a place that is empty.
		if key == 0 || i > len(n.entries) {
			return nil, api.ErrForm
		}
		n.entries = append(n.entries, entry{key: key, ref: ref})
	}
	if len(n.entries) < t.fewest(level) {
		return nil, api.ErrForm
	}
	return n, api.OK
}

// tagAt is the tag of the nodes at a level.
func (t *tree) tagAt(level int) int {
	if t.isLeaf(level) {
		return tagLeaf
	}
	return tagInner
}

// fewest tells how many entries a node at a level has at least. A root that is empty, or leads to one node alone, is let
// go.
func (t *tree) fewest(level int) int {
	switch {
	case level > 0:
		return least
	case t.isLeaf(level):
		return 1
	}
	return 2
}

// store writes a node's entries.
func (t *tree) store(n *node) {
	for i := range most {
		var x entry
		if i < len(n.entries) {
			x = n.entries[i]
		}
		t.hold(n.self, 2*i, x.key)
		t.hold(n.self, 2*i+1, x.ref)
	}
}

// below tells how many of a node's keys are below k, and whether the next one is k.
func (t *tree) below(n *node, k packed) (i int, same bool, e api.Errno) {
	low, high := 0, len(n.entries)
	for low < high {
		mid := (low + high) / 2
		c, e := compareKey(t.heap, n.entries[mid].key, k)
		if e != api.OK {
			return 0, false, e
		}
		switch {
		case c == 0:
			return mid, true, api.OK
		case c < 0:
			low = mid + 1
		default:
			high = mid
		}
	}
	return low, false, api.OK
}
