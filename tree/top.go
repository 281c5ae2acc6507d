package tree

import (
	"tidemark/api"
	"tidemark/heap"
)

// The tags of a tree's objects.
const (
	tagTree = 20 + iota
	tagLeaf
	tagInner
	tagKey
)

// The form of a tree's own object: a ref, the root, and scalars, how many entries and how many levels there are.
const (
	treeRefs   = 1
	treeSize   = 3
	rootRef    = 0
	countWord  = 0
	heightWord = 1
)

// highest is how many levels a tree has at most. One of 7 would have at least 2 times the 6th power of least entries, for
// whose keys alone MaxWords words are no room.
const highest = 6

// tree is what a tree's own object says. Levels are numbered from the root's, 0, on; the last one is the leaves'.
type tree struct {
	heap   *heap.Heap
	self   uint64
	root   uint64
	count  int
	height int
}

// open reads a tree's own object. It refuses what all calls refuse, of a key too.
func open(h *heap.Heap, t uint64, key []byte) (*tree, api.Errno) {
	if !live(h, t) {
		return nil, api.ErrStale
	}
	tag, refs, size, _ := h.Head(t)
	if tag != tagTree {
		return nil, api.ErrKind
	}
	if len(key) > maxKey {
		return nil, api.ErrArg
	}
	if refs != treeRefs || size != treeSize {
		return nil, api.ErrForm
	}
	root, _ := h.Ref(t, rootRef)
	count, _ := h.Word(t, countWord)
	height, _ := h.Word(t, heightWord)
	if count > api.MaxWords || height > highest {
		return nil, api.ErrForm
	}
	return &tree{heap: h, self: t, root: root, count: int(count), height: int(height)}, api.OK
}

// live tells whether x is a live handle.
func live(h *heap.Heap, x uint64) bool {
	_, e := h.Table().At(x)
	return e == api.OK
}

// isLeaf tells whether the nodes at a level are leaves.
func (t *tree) isLeaf(level int) bool {
	return level == t.height-1
}

// save writes a tree's own object.
func (t *tree) save() {
	t.hold(t.self, rootRef, t.root)
	t.heap.SetWord(t.self, countWord, uint64(t.count))
	t.heap.SetWord(t.self, heightWord, uint64(t.height))
}

// hold makes the ref i of x y, if it is not. What is gone cannot be held any more: there is nothing in its place then,
// rather than what stood there.
func (t *tree) hold(x uint64, i int, y uint64) {
	if was, _ := t.heap.Ref(x, i); was == y {
		return
	}
	if t.heap.SetRef(x, i, y) != api.OK {
		t.heap.SetRef(x, i, 0)
	}
}
