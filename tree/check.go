package tree

import (
	"tidemark/api"
)

// checker goes through all of a tree.
type checker struct {
	tree  *tree
	count int
	// The key of the entry that was met last, if there was one.
	key packed
}

// check tells whether keys rise, all leaves are at the last level, and the count is right.
func (t *tree) check() api.Errno {
	c := checker{tree: t}
	if t.height == 0 && t.root != 0 {
		return api.ErrForm
	}
	if t.height > 0 {
		if _, e := c.node(t.root, 0); e != api.OK {
			return e
		}
	}
	if c.count != t.count {
		return api.ErrForm
	}
	return api.OK
}

// node goes through a node and all below it, and tells the node. It ends, however nodes hold one another: where it comes
// to a leaf again, keys do not rise.
func (c *checker) node(x uint64, level int) (*node, api.Errno) {
	n, e := c.tree.node(x, level)
	if e != api.OK {
		return nil, e
	}
	for _, x := range n.entries {
		if c.tree.isLeaf(level) {
			e = c.leafEntry(x)
		} else {
			e = c.innerEntry(x, level)
		}
		if e != api.OK {
			return nil, e
		}
	}
	return n, api.OK
}

// leafEntry sees to it that a leaf's entry has a key above the one ahead of it.
func (c *checker) leafEntry(x entry) api.Errno {
	k, e := readKey(c.tree.heap, x.key)
	if e != api.OK {
		return e
	}
	if order, _ := compareKey(c.tree.heap, x.key, c.key); c.count > 0 && order <= 0 {
		return api.ErrForm
	}
	c.key = k
	c.count++
	return api.OK
}

// innerEntry sees to it that an entry's node is known by its first key.
func (c *checker) innerEntry(x entry, level int) api.Errno {
	n, e := c.node(x.ref, level+1)
	if e != api.OK {
		return e
	}
	if n.asEntry() != x {
		return api.ErrForm
	}
	return api.OK
}
