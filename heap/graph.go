package heap

import (
	"tidemark/api"
)

// Node is an object of a graph: its refs are numbers of nodes, or -1.
type Node struct {
	Tag   int
	Refs  []int
	Words []uint64
}

// Graph is the objects that are reached, in the order in which they are met; its roots are numbers of nodes, or -1.
type Graph struct {
	Roots []int
	Nodes []Node
}

// none is the number of a node that there is not.
const none = -1

// Graph tells how the objects that are reached hang together.
func (h *Heap) Graph() Graph {
	m := h.reached()
	g := Graph{Roots: make([]int, 0, api.MaxRoots), Nodes: make([]Node, 0, len(m.places))}
	for _, x := range h.held() {
		g.Roots = append(g.Roots, m.number(x))
	}
	for _, at := range m.places {
		g.Nodes = append(g.Nodes, m.node(at))
	}
	return g
}

// Live tells how many objects are reached, and how many words they take, with their heads.
func (h *Heap) Live() (objects, words int) {
	m := h.reached()
	for _, at := range m.places {
		head, _ := h.arena.Head(at)
		words += 1 + head.Size
	}
	return len(m.places), words
}

// met is the objects that are reached: their places, in the order in which they are met, and by its place each one's
// number in that order.
type met struct {
	heap    *Heap
	places  []int
	numbers map[int]int
	lost    bool // whether a root or a ref was met that is not 0 and stands for no object
}

// reached goes through all that is reached, breadth first: places is both what was met and what is still to be gone
// through.
func (h *Heap) reached() *met {
	m := &met{heap: h, numbers: map[int]int{}}
	for _, x := range h.held() {
		m.meet(x)
	}
	for k := 0; k < len(m.places); k++ {
		m.meetRefs(m.places[k])
	}
	return m
}

// meetRefs meets what the object at a place holds.
func (m *met) meetRefs(at int) {
	head, _ := m.heap.arena.Head(at)
	for i := range head.Refs {
		x, _ := m.heap.arena.Get(at, i)
		m.meet(x)
	}
}

// meet puts the object of x behind those that were met, if it is not among them.
func (m *met) meet(x uint64) {
	if x == 0 {
		return
	}
	at, _, e := m.heap.object(x)
	if e != api.OK {
		m.lost = true
		return
	}
	if _, ok := m.numbers[at]; ok {
		return
	}
	m.numbers[at] = len(m.places)
	m.places = append(m.places, at)
}

// number is the number of a root's or a ref's object, all of which were met.
func (m *met) number(x uint64) int {
	at, _, e := m.heap.object(x)
	if e != api.OK {
		return none
	}
	return m.numbers[at]
}

// node is the object at a place.
func (m *met) node(at int) Node {
	a := m.heap.arena
	head, _ := a.Head(at)
	n := Node{Tag: head.Tag, Refs: make([]int, head.Refs), Words: make([]uint64, head.Size-head.Refs)}
	for i := range n.Refs {
		x, _ := a.Get(at, i)
		n.Refs[i] = m.number(x)
	}
	for i := range n.Words {
		n.Words[i], _ = a.Get(at, head.Refs+i)
	}
	return n
}
