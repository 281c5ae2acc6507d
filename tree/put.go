package tree

import (
	"slices"

	"tidemark/api"
)

// replace makes x the ref of the way's entry, and tells the one that it had.
func (w *way) replace(x uint64) uint64 {
	leaf := w.steps[len(w.steps)-1]
	old := leaf.node.entries[leaf.i].ref
	leaf.node.entries[leaf.i].ref = x
	w.change(leaf.node)
	w.save()
	return old
}

// insert adds an entry of the way's key, which has none. All objects are made ahead of the first change, so that a
// refusal changes nothing that is reached.
func (w *way) insert(x uint64) api.Errno {
	key, nodes, e := w.tree.makeFor(w.key, w.splits())
	if e != api.OK {
		return e
	}
	w.add(entry{key: key, ref: x}, nodes)
	w.tree.count++
	w.save()
	return api.OK
}

// splits tells how many nodes one more entry takes: one for each node that is split, which are those that are full, from
// the leaf up, and a new root, if there is none or if the root is split.
func (w *way) splits() int {
	n := 0
	for _, s := range slices.Backward(w.steps) {
		if len(s.node.entries) < most {
			return n
		}
		n++
	}
	return n + 1
}

// makeFor makes a key's object, and so many nodes, of which the first is a leaf.
func (t *tree) makeFor(k packed, nodes int) (key uint64, made []uint64, e api.Errno) {
	words, objects := 1+k.size()+nodes*(1+nodeRefs), 1+nodes
	if t.heap.Arena().Free() < words || t.heap.Table().Slots()-t.heap.Table().Count() < objects {
		return 0, nil, api.ErrFull
	}
	// Both may be refused yet: a watcher that makes objects of its own may take the room.
	key, e = makeKey(t.heap, k)
	if e != api.OK {
		return 0, nil, e
	}
	tag := tagLeaf
	for range nodes {
		x, e := t.heap.Make(tag, nodeRefs, nodeRefs)
		if e != api.OK {
			return 0, nil, e
		}
		made = append(made, x)
		tag = tagInner
	}
	return key, made, api.OK
}

// add puts an entry into the way's leaf. Nodes that are full are split, into those that were made.
func (w *way) add(x entry, made []uint64) {
	var n, right, root *node
	var i int
	level := len(w.steps) - 1
	if level < 0 {
		goto grow
	}
	i = w.steps[level].i

insert:
	n = w.steps[level].node
	n.entries = slices.Insert(n.entries, i, x)
	w.change(n)
	w.rename(level)
	if len(n.entries) > most {
		goto split
	}
	return

split:
	right = &node{self: made[0], entries: slices.Clone(n.entries[least:])}
	n.entries = n.entries[:least]
	w.change(right)
	made, x = made[1:], right.asEntry()
	if level == 0 {
		goto grow
	}
	level--
	i = w.steps[level].i + 1
	goto insert

grow:
	root = &node{self: made[0], entries: []entry{x}}
	if n != nil {
		root.entries = []entry{n.asEntry(), x}
	}
	w.change(root)
	w.tree.root = root.self
	w.tree.height++
}
