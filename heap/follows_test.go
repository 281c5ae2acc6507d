package heap_test

import (
	"math/rand"
	"slices"
	"testing"

	"tidemark/api"
	"tidemark/heap"
)

// paired is an empty heap and the other hand's.
func paired(t *testing.T, words, slots int) *pair {
	t.Helper()
	return &pair{made(t, words, slots), &other{words: words, slots: slots}, &watcher{}}
}

// some is a handle by chance: mostly a live one, at times 0, one that was freed, or one beside it.
func some(r *rand.Rand, a *pair) uint64 {
	all := append(a.other.names(), 0)
	x := all[r.Intn(len(all))]
	switch n := r.Intn(20); {
	case n < 1:
		return 0
	case n < 2:
		return x + uint64(r.Intn(5)) - 2
	case n < 3:
		return x + uint64(r.Intn(5))<<32 - 2<<32
	case n < 17:
		if l := a.other.there(); len(l) > 0 {
			return l[r.Intn(len(l))].name
		}
	}
	return x
}

// step does one thing by chance to a heap and to the other hand's, and tells both answers.
func step(t *testing.T, r *rand.Rand, a *pair) (got, want string) {
	t.Helper()
	x, y := some(r, a), some(r, a)
	switch n := r.Intn(100); {
	case n < 25:
		size := r.Intn(2 + r.Intn(8))
		tag, refs := r.Intn(258)-1, r.Intn(size+2)-r.Intn(2)
		return one(a.heap.Make(tag, refs, size)), a.other.make(tag, refs, size)
	case n < 70:
		i := r.Intn(5) - 1
		return line(a.heap.SetRef(x, i, y)), a.other.setRef(x, i, y)
	case n < 80:
		i, w := r.Intn(5)-1, r.Uint64()>>r.Intn(64)
		return line(a.heap.SetWord(x, i, w)), a.other.setWord(x, i, w)
	case n < 94:
		i := r.Intn(18) - 1
		return line(a.heap.SetRoot(i, y)), a.other.setRoot(i, y)
	case n < 97:
		a.other.watched = r.Intn(3) > 0
		a.heap.Watch(nil)
		if a.other.watched {
			a.heap.Watch(a.watcher)
		}
	default:
		a.collect(t, r)
	}
	return "", ""
}

// collect lets some of what is not reached go, rarely something that is, and slides the rest together.
func (a *pair) collect(t *testing.T, r *rand.Rand) {
	t.Helper()
	reached, careless := a.other.reached(), r.Intn(20) == 0
	var all []*thing
	var names []uint64
	for _, x := range a.other.there() {
		if slices.Contains(reached, x) && !(careless && r.Intn(4) == 0) || r.Intn(4) == 0 {
			continue
		}
		all, names = append(all, x), append(names, x.name)
	}
	slid(t, a.heap, names...)
	a.other.lose(all)
}

// P9.1, P9.2, P9.3, P9.4: things done by chance, held against another hand, with all that the heap tells.
func TestByChance(t *testing.T) {
	r := rand.New(rand.NewSource(9))
	nodes, lost, full := 0, 0, 0
	for run := range 60 {
		a := paired(t, 1+r.Intn(1+r.Intn(250)), 1+r.Intn(1+r.Intn(50)))
		for range 150 {
			got, want := step(t, r, a)
			of := append(a.other.names(), 0, some(r, a))
			if got != want || outside(a.heap, of...) != a.other.outside(of...) {
				t.Fatalf("run %d: %s, want %s, and all it tells:\n%s\nwant\n%s", run, got, want, outside(a.heap, of...), a.other.outside(of...))
			}
			tells(t, "the room", line(room(a.heap)), a.other.top(), a.other.words-a.other.top(), a.other.slots, len(a.other.there()))
			tells(t, "what the watcher was told", line(a.watcher.told), a.other.told)
			nodes = max(nodes, len(a.heap.Graph().Nodes))
			if a.heap.Check() != api.OK {
				lost++
			}
			if want == line(0, api.ErrFull) {
				full++
			}
		}
	}
	if nodes < 10 || lost < 100 || full < 100 {
		t.Errorf("at most %d nodes; %d times something was lost, %d times there was no room", nodes, lost, full)
	}
}

// P9.4: what is set is told, and nothing else changes, of no object, whoever is beside it.
func TestSetsNothingElse(t *testing.T) {
	a := paired(t, 200, 12)
	for tag := 1; tag < 10; tag++ {
		tells(t, "Make", one(a.heap.Make(tag, tag%4, 2*(tag%4))), a.other.make(tag, tag%4, 2*(tag%4)))
	}
	of := a.other.names()
	same := func(call, got, want string) {
		t.Helper()
		tells(t, call, got, want)
		tells(t, call+", all that it tells", outside(a.heap, of...), a.other.outside(of...))
	}
	for k, x := range of {
		for i := range (k + 1) % 4 {
			w := uint64(1000*k + i)
			same(line("SetWord", k, i), line(a.heap.SetWord(x, i, w)), a.other.setWord(x, i, w))
			for _, y := range []uint64{x, of[0], 0, of[8], of[3*k%9]} {
				same(line("SetRef", k, i), line(a.heap.SetRef(x, i, y)), a.other.setRef(x, i, y))
			}
		}
		for i := range 16 {
			same(line("SetRoot", i), line(a.heap.SetRoot(i, x)), a.other.setRoot(i, x))
		}
	}
}

// plan is how objects are to hang together: of each its tag, its refs (numbers of others, -1: none) and its scalars.
type plan struct {
	roots [16]int
	nodes []heap.Node
}

// planned is a plan by chance.
func planned(r *rand.Rand) plan {
	p := plan{nodes: make([]heap.Node, 1+r.Intn(20))}
	for i := range p.roots {
		p.roots[i] = max(-1, r.Intn(5*len(p.nodes))-4*len(p.nodes))
	}
	for k := range p.nodes {
		n := &p.nodes[k]
		n.Tag = 1 + r.Intn(255)
		for range r.Intn(5) {
			n.Refs = append(n.Refs, r.Intn(len(p.nodes)+1)-1)
		}
		for range r.Intn(4) {
			n.Words = append(n.Words, r.Uint64())
		}
	}
	return p
}

// build makes a heap by a plan: its objects are made, linked and held by roots in an order by chance, among others that
// nothing reaches in the end, and are slid at times.
func (p plan) build(t *testing.T, r *rand.Rand, words, slots int) *heap.Heap {
	t.Helper()
	h, names := made(t, words, slots), make([]uint64, len(p.nodes))
	var beside []uint64
	for _, k := range r.Perm(len(p.nodes)) {
		if r.Intn(3) == 0 {
			beside = append(beside, makes(t, h, 1+r.Intn(255), 1, 1+r.Intn(4)))
		}
		names[k] = makes(t, h, p.nodes[k].Tag, len(p.nodes[k].Refs), len(p.nodes[k].Refs)+len(p.nodes[k].Words))
	}
	deeds := p.deeds(t, h, names)
	for _, k := range r.Perm(len(deeds)) {
		if n := len(beside); n > 0 && r.Intn(9) == 0 {
			slid(t, h, beside[n-1])
			beside = beside[:n-1]
		}
		deeds[k]()
	}
	for _, x := range beside {
		fine(t, h.SetRef(x, 0, names[0]))
	}
	return h
}

// deeds are all that makes objects hang together as planned; they may be done in any order.
func (p plan) deeds(t *testing.T, h *heap.Heap, names []uint64) []func() {
	var l []func()
	for i, k := range p.roots {
		if k >= 0 {
			l = append(l, func() { fine(t, h.SetRoot(i, names[k])) })
		}
	}
	for k, n := range p.nodes {
		for i, y := range n.Refs {
			if y >= 0 {
				l = append(l, func() { fine(t, h.SetRef(names[k], i, names[y])) })
			}
		}
		for i, w := range n.Words {
			l = append(l, func() { fine(t, h.SetWord(names[k], i, w)) })
		}
	}
	return l
}

// P9.4: heaps whose objects were made and linked in other orders, and hang together in the same way, have one graph,
// whatever their room; one that differs in a tag, a scalar, a ref or a root that is reached has another.
func TestOneGraph(t *testing.T) {
	r := rand.New(rand.NewSource(94))
	for range 200 {
		p := planned(r)
		h := p.build(t, r, 500, 60)
		for _, c := range []struct{ words, slots int }{{500, 60}, {1000, 45}, {340, 1000}} {
			o := p.build(t, r, c.words, c.slots)
			tells(t, "Graph of another order", line(o.Graph()), line(h.Graph()))
			tells(t, "Live of another order", live(o.Live()), live(h.Live()))
			tells(t, "Check", line(o.Check()), api.OK)
			if objects, _ := h.Live(); objects > 0 {
				p.differs(t, o)
			}
		}
	}
}

// differs changes something that a heap tells of what is reached, and sees to it that the graph tells it.
func (p plan) differs(t *testing.T, h *heap.Heap) {
	t.Helper()
	was := line(h.Graph())
	i := slices.IndexFunc(p.roots[:], func(k int) bool { return k >= 0 })
	x, _ := h.Root(i)
	_, refs, size, _ := h.Head(x)
	if size > refs {
		w, _ := h.Word(x, size-refs-1)
		fine(t, h.SetWord(x, size-refs-1, w+1))
		if line(h.Graph()) == was {
			t.Errorf("another scalar, and the same graph: %s", was)
		}
		fine(t, h.SetWord(x, size-refs-1, w))
	}
	if refs > 0 {
		y, _ := h.Ref(x, refs-1)
		z := x
		if y == x {
			z = 0
		}
		fine(t, h.SetRef(x, refs-1, z))
		if line(h.Graph()) == was {
			t.Errorf("another ref, and the same graph: %s", was)
		}
		fine(t, h.SetRef(x, refs-1, y))
	}
	tells(t, "Graph, all as it was", line(h.Graph()), was)
	fine(t, h.SetRoot(i, 0))
	if line(h.Graph()) == was {
		t.Errorf("another root, and the same graph: %s", was)
	}
}
