package tree

import (
	"slices"

	"tidemark/api"
)

// remove lets the way's entry go. No object is made for it, so that it is done in a full heap, too.
func (w *way) remove() api.Errno {
	if e := w.drop(); e != api.OK {
		return e
	}
	w.tree.count--
	w.save()
	return api.OK
}

// drop takes the way's entry out of its leaf. A node that has too few entries then is handed some of one beside it, or
// joined with it, if one node holds the entries of both.
func (w *way) drop() (e api.Errno) {
	var n, left, right *node
	var at int
	level := len(w.steps) - 1
	i := w.steps[level].i

take:
	n = w.steps[level].node
	n.entries = slices.Delete(n.entries, i, i+1)
	w.change(n)
	w.rename(level)
	if level == 0 {
		goto root
	}
	if len(n.entries) >= least {
		return api.OK
	}
	left, right, at, e = w.pair(level)
	if e != api.OK {
		return e
	}
	if len(left.entries)+len(right.entries) <= most {
		goto join
	}
	halve(left, right)
	w.change(left)
	w.change(right)
	w.steps[level-1].node.entries[at+1].key = right.entries[0].key
	w.change(w.steps[level-1].node)
	return api.OK

join:
	left.entries = slices.Concat(left.entries, right.entries)
	right.entries = nil
	w.change(left)
	w.change(right)
	level--
	i = at + 1
	goto take

root:
	if len(n.entries) == 0 {
		w.tree.root, w.tree.height = 0, 0
	} else if len(n.entries) == 1 && !w.tree.isLeaf(0) {
		w.tree.root = n.entries[0].ref
		w.tree.height--
	}
	return api.OK
}

// pair is the way's node at a level and one beside it, in their order, and which entry of the node above leads to the
// left one.
func (w *way) pair(level int) (left, right *node, at int, e api.Errno) {
	up, n := w.steps[level-1], w.steps[level].node
	if up.i+1 < len(up.node.entries) {
		right, e = w.tree.node(up.node.entries[up.i+1].ref, level)
		return n, right, up.i, e
	}
	left, e = w.tree.node(up.node.entries[up.i-1].ref, level)
	return left, n, up.i - 1, e
}

// halve gives each of two nodes one half of the entries of both.
func halve(left, right *node) {
	all := slices.Concat(left.entries, right.entries)
	half := len(all) / 2
	left.entries, right.entries = slices.Clone(all[:half]), slices.Clone(all[half:])
}
