package heap_test

import (
	"fmt"
	"testing"

	"tidemark/api"
	"tidemark/heap"
)

// rooted is the text of a graph with these roots (from 0 on; the others hold nothing) and nodes.
func rooted(nodes string, roots ...int) string {
	for len(roots) < 16 {
		roots = append(roots, -1)
	}
	return fmt.Sprintf("{%v [%s]}", roots, nodes)
}

// P9.3: the graph of an empty heap, and of one in which nothing is reached, has MaxRoots roots and no nodes.
func TestGraphEmpty(t *testing.T) {
	h := made(t, 20, 5)
	for range 3 {
		tells(t, "Graph", line(h.Graph()), rooted(""))
		tells(t, "Live", live(h.Live()), 0, 0)
		tells(t, "Check", line(h.Check()), api.OK)
		x := makes(t, h, 1, 1, 2)
		fine(t, h.SetRef(x, 0, x), h.SetRoot(4, x), h.SetRoot(4, 0))
	}
}

// P9.3: an object that holds itself, and objects that hold one another in a ring, from wherever it is entered.
func TestGraphRing(t *testing.T) {
	h := made(t, 40, 9)
	self := makes(t, h, 9, 2, 2)
	fine(t, h.SetRef(self, 1, self), h.SetRoot(0, self))
	tells(t, "Graph of one that holds itself", line(h.Graph()), rooted("{9 [-1 0] []}", 0))
	tells(t, "Live", live(h.Live()), 1, 3)
	fine(t, h.SetRoot(0, 0))

	x, y, z := makes(t, h, 1, 1, 2), makes(t, h, 2, 1, 1), makes(t, h, 3, 1, 3)
	fine(t, h.SetRef(x, 0, y), h.SetRef(y, 0, z), h.SetRef(z, 0, x), h.SetWord(z, 1, 7))
	for _, c := range []struct {
		from uint64
		want string
	}{
		{x, "{1 [1] [0]} {2 [2] []} {3 [0] [0 7]}"},
		{y, "{2 [1] []} {3 [2] [0 7]} {1 [0] [0]}"},
		{z, "{3 [1] [0 7]} {1 [2] [0]} {2 [0] []}"},
	} {
		fine(t, h.SetRoot(0, c.from))
		tells(t, "Graph of a ring", line(h.Graph()), rooted(c.want, 0))
		tells(t, "Live", live(h.Live()), 3, 9)
		tells(t, "Check", line(h.Check()), api.OK)
	}
}

// P9.3: what is held twice, by refs, by roots or by both, is one node, and is counted once.
func TestGraphHeldTwice(t *testing.T) {
	h := made(t, 40, 9)
	x, y, z := makes(t, h, 1, 3, 3), makes(t, h, 2, 2, 3), makes(t, h, 3, 0, 1)
	fine(t, h.SetRef(x, 0, z), h.SetRef(x, 1, y), h.SetRef(x, 2, z), h.SetRef(y, 0, z), h.SetRef(y, 1, z))
	fine(t, h.SetRoot(1, x), h.SetRoot(2, x), h.SetRoot(15, x))
	tells(t, "Graph", line(h.Graph()), rooted("{1 [1 2 1] []} {3 [] [0]} {2 [1 1] [0]}", -1, 0, 0, -1, -1, -1, -1, -1, -1, -1, -1, -1, -1, -1, -1, 0))
	tells(t, "Live", live(h.Live()), 3, 10)
	fine(t, h.SetRoot(0, z), h.SetRoot(15, z))
	tells(t, "Graph", line(h.Graph()), rooted("{3 [] [0]} {1 [0 2 0] []} {2 [0 0] [0]}", 0, 1, 1, -1, -1, -1, -1, -1, -1, -1, -1, -1, -1, -1, -1, 0))
	tells(t, "Live", live(h.Live()), 3, 10)
}

// P9.3: what roots and refs do not reach is not told, though it holds what is reached, and though scalars are like
// handles.
func TestGraphNotReached(t *testing.T) {
	h := made(t, 60, 9)
	x, y := makes(t, h, 1, 1, 3), makes(t, h, 2, 0, 2)
	beside, holds := makes(t, h, 3, 1, 1), makes(t, h, 4, 2, 2)
	fine(t, h.SetRef(x, 0, y), h.SetRef(holds, 0, x), h.SetRef(holds, 1, beside), h.SetRef(beside, 0, holds))
	fine(t, h.SetWord(x, 0, beside), h.SetWord(x, 1, holds), h.SetWord(y, 0, holds), h.SetRoot(2, x))
	nodes := fmt.Sprintf("{1 [1] [%d %d]} {2 [] [%d 0]}", beside, holds, holds)
	tells(t, "Graph", line(h.Graph()), rooted(nodes, -1, -1, 0))
	tells(t, "Live", live(h.Live()), 2, 7)
	tells(t, "the room", line(room(h)), 12, 48, 9, 4)
	fine(t, h.SetRoot(1, holds))
	tells(t, "Live", live(h.Live()), 4, 12)
	fine(t, h.SetRoot(1, 0), h.SetRef(x, 0, 0))
	tells(t, "Live", live(h.Live()), 1, 4)
}

// P9.3: nodes stand in the order in which they are met: roots first, by rising roots, whenever they were set and
// wherever their objects lie; then refs in order, of the objects in their order.
func TestGraphOrder(t *testing.T) {
	h := made(t, 100, 20)
	var l []uint64
	for tag := 1; tag < 11; tag++ {
		l = append(l, makes(t, h, tag, 3, 3))
	}
	link := func(x int, refs ...int) {
		for i, y := range refs {
			if y > 0 {
				fine(t, h.SetRef(l[x-1], i, l[y-1]))
			}
		}
	}
	link(8, 10, 2, 9)
	link(5, 0, 3, 10)
	link(10, 6, 5, 0)
	link(2, 1, 7, 6)
	link(3, 4, 0, 8)
	fine(t, h.SetRoot(11, l[4]), h.SetRoot(3, l[7]))
	nodes := "{8 [2 3 4] []} {5 [-1 5 2] []} {10 [6 1 -1] []} {2 [7 8 6] []} {9 [-1 -1 -1] []} {3 [9 -1 0] []} " +
		"{6 [-1 -1 -1] []} {1 [-1 -1 -1] []} {7 [-1 -1 -1] []} {4 [-1 -1 -1] []}"
	tells(t, "Graph", line(h.Graph()), rooted(nodes, -1, -1, -1, 0, -1, -1, -1, -1, -1, -1, -1, 1))
	fine(t, h.SetRoot(0, l[0]), h.SetRoot(3, l[8]), h.SetRoot(11, l[1]))
	tells(t, "Graph", line(h.Graph()), rooted("{1 [-1 -1 -1] []} {9 [-1 -1 -1] []} {2 [0 3 4] []} {7 [-1 -1 -1] []} {6 [-1 -1 -1] []}",
		0, -1, -1, 1, -1, -1, -1, -1, -1, -1, -1, 2))
}

// P9.3: a ref and a root that are not live any more are told as nothing, and nothing is reached by them.
func TestGraphStale(t *testing.T) {
	h := made(t, 40, 9)
	x, y, z := makes(t, h, 1, 2, 2), makes(t, h, 2, 1, 2), makes(t, h, 3, 0, 1)
	fine(t, h.SetRoot(0, y), h.SetRoot(1, x), h.SetRef(x, 0, y), h.SetRef(x, 1, x), h.SetRef(y, 0, z))
	slid(t, h, y)
	tells(t, "Graph", line(h.Graph()), rooted("{1 [-1 0] []}", -1, 0))
	tells(t, "Live", live(h.Live()), 1, 3)
	tells(t, "Root, Ref", one(h.Root(0))+" "+one(h.Ref(x, 0)), y, 0, y, 0)
	again := makes(t, h, 4, 0, 0)
	tells(t, "its slot, taken again", line(again), named(1, 2))
	tells(t, "Graph", line(h.Graph()), rooted("{1 [-1 0] []}", -1, 0))
}

// P9.3: objects that hold one another in a row as long as a heap has room for; and as many as there may be in one.
func TestGraphLong(t *testing.T) {
	const length = 524288
	h := made(t, 2*length, length)
	last := uint64(0)
	for k := range length {
		x := makes(t, h, 1+k%255, 1, 1)
		fine(t, h.SetRef(x, 0, last))
		last = x
	}
	fine(t, h.SetRoot(7, last))
	tells(t, "Live", live(h.Live()), length, 2*length)
	tells(t, "Check", line(h.Check()), api.OK)
	g := h.Graph()
	tells(t, "nodes, roots", line(len(g.Nodes), g.Roots[7]), length, 0)
	for k, n := range g.Nodes {
		want := k + 1
		if want == length {
			want = -1
		}
		if n.Tag != 1+(length-1-k)%255 || len(n.Refs) != 1 || n.Refs[0] != want || len(n.Words) != 0 {
			t.Fatalf("node %d: %v", k, n)
		}
	}
}

// P9.3: an object of as many words as there may be, all refs or all scalars.
func TestGraphWide(t *testing.T) {
	h := made(t, 20000, 5000)
	x, w := makes(t, h, 1, 4096, 4096), makes(t, h, 2, 0, 4096)
	for i := range 4096 {
		y := makes(t, h, 3, 0, 1)
		fine(t, h.SetRef(x, 4095-i, y), h.SetWord(y, 0, uint64(i)), h.SetWord(w, i, uint64(2*i)))
	}
	fine(t, h.SetRoot(0, x), h.SetRoot(1, w))
	g := h.Graph()
	tells(t, "nodes", line(len(g.Nodes), len(g.Nodes[0].Refs), len(g.Nodes[1].Words)), 4098, 4096, 4096)
	for i := range 4096 {
		if g.Nodes[0].Refs[i] != 2+i || g.Nodes[2+i].Words[0] != uint64(4095-i) || g.Nodes[1].Words[i] != uint64(2*i) {
			t.Fatalf("ref %d: %d, %v; word %d", i, g.Nodes[0].Refs[i], g.Nodes[2+i], g.Nodes[1].Words[i])
		}
	}
	tells(t, "Live", live(h.Live()), 4098, 4097+4097+2*4096)
}

// lists are the lists of a graph, each with its spare room.
func lists(g heap.Graph) (numbers [][]int, words [][]uint64) {
	numbers = append(numbers, g.Roots[:cap(g.Roots)])
	for _, n := range g.Nodes {
		numbers = append(numbers, n.Refs[:cap(n.Refs)])
		words = append(words, n.Words[:cap(n.Words)])
	}
	return numbers, words
}

// fill puts the number of each list into all of its items, and tells whether each is there once all are filled.
func fill[T int | uint64](all [][]T) bool {
	for k, l := range all {
		for i := range l {
			l[i] = T(k)
		}
	}
	for k, l := range all {
		for i := range l {
			if l[i] != T(k) {
				return false
			}
		}
	}
	return true
}

// R4: what Graph answers is new memory: it is the caller's, its spare room too, and no two lists share any.
func TestGraphIsNew(t *testing.T) {
	h := made(t, 200, 20)
	for tag := range 16 {
		x := makes(t, h, 1+tag, tag%4, 2*(tag%4))
		for i := range tag % 4 {
			fine(t, h.SetRef(x, i, named(tag*i%(tag+1), 1)), h.SetWord(x, i, uint64(100+i)))
		}
		fine(t, h.SetRoot(tag, named(tag/2, 1)))
	}
	was := picture(h, h.Table().Live()...)
	a, b := h.Graph(), h.Graph()
	shown := line(b)
	numbers, words := lists(a)
	if !fill(numbers) || !fill(words) {
		t.Errorf("lists of one answer share memory")
	}
	clear(a.Nodes[:cap(a.Nodes)])
	tells(t, "another answer", line(b), shown)
	tells(t, "what the heap tells", picture(h, h.Table().Live()...), was)
	fine(t, h.SetRoot(0, 0), h.SetWord(named(1, 1), 0, 5), h.SetRef(named(3, 1), 0, 0))
	tells(t, "an answer told ahead", line(b), shown)
}
