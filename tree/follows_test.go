package tree_test

import (
	"fmt"
	"math/rand"
	"slices"
	"strings"
	"testing"

	"tidemark/api"
	"tidemark/tree"
)

// P13.3: entries that are put in some order, and taken in another one: the tree tells what the list tells at each step.
func TestOrders(t *testing.T) {
	const n = 150
	for into, puts := range orders(n) {
		for out, takes := range orders(n) {
			w := empty(t, 20000, 900)
			for step, i := range puts {
				w.put(numbered(3, i), []uint64{0, w.tree}[i%2])
				w.looks(beside(numbered(3, i))...)
				if step%50 == 49 {
					w.same()
				}
			}
			for step, i := range takes {
				w.take(numbered(3, i))
				w.looks(beside(numbered(3, i))...)
				if step%50 == 49 {
					w.same()
				}
			}
			if len(w.list) > 0 || t.Failed() {
				t.Fatalf("put %s, taken %s", into, out)
			}
			w.same()
		}
	}
}

// P13.3: greater trees, in all orders.
func TestManyInOrders(t *testing.T) {
	const n = 8000
	for name, order := range orders(n) {
		w := empty(t, api.MaxWords, 60000)
		for _, i := range order {
			w.fine(w.added(i))
		}
		w.says(name, w.count()+" "+text(w.check()), n, api.OK, api.OK)
		for i := range n {
			w.says(name, w.seek(numbered(6, i)), numbered(6, i), 0, true, api.OK)
			w.says(name, w.last(numbered(6, i)+"x"), numbered(6, i), 0, true, api.OK)
		}
		for step, i := range order {
			w.says(name, two(w.takes(numbered(6, i))), 0, true, api.OK)
			if step%1000 == 0 {
				w.says(name, w.count()+" "+text(w.check()), n-1-step, api.OK, api.OK)
			}
		}
		w.same()
		w.lean()
	}
}

// lean sees to it that, after a full collection, the tree takes no more words than it may; what its refs hold is not
// counted.
func (w *world) lean() {
	w.Helper()
	w.full()
	seen := map[uint64]bool{}
	if words, most := w.words(w.tree, seen), 60+60*len(w.list)+w.list.bytes()/4; words > most {
		w.Fatalf("%d entries of %d bytes take %d words, more than %d", len(w.list), w.list.bytes(), words, most)
	}
}

// words are the words of all objects of the tree's tags below x, and its own, that were not seen yet.
func (w *world) words(x uint64, seen map[uint64]bool) int {
	w.Helper()
	if x == 0 || seen[x] {
		return 0
	}
	seen[x] = true
	tag, refs, size, e := w.heap.Head(x)
	w.fine(e)
	if tag < 20 || tag > 29 {
		return 0
	}
	n := 1 + size
	for i := range refs {
		y, e := w.heap.Ref(x, i)
		w.fine(e)
		n += w.words(y, seen)
	}
	return n
}

// P13.3: a tree of no entries, of one, of any number: in few words, however its entries came and went.
func TestWords(t *testing.T) {
	for seed := range 6 {
		r := rand.New(rand.NewSource(int64(seed)))
		w := empty(t, 200000, 9000)
		w.lean()
		for n := range 300 {
			w.put(strings.Repeat("k", r.Intn(1+seed*seed*40))+fmt.Sprint(n), 0)
			if n < 50 || n%50 == 0 {
				w.lean()
			}
		}
		for len(w.list) > 0 {
			i := r.Intn(len(w.list))
			// Long keys first, in some: what is left is short, and nothing of the others may be left.
			if seed%2 == 0 {
				for k, x := range w.list {
					if len(x.key) > len(w.list[i].key) {
						i = k
					}
				}
			}
			w.take(w.list[i].key)
			if n := len(w.list); n < 50 || n%50 == 0 {
				w.lean()
			}
		}
		w.lean()
		w.same()
	}
}

// P13.3: what is taken is held no longer, and what was put in its place either: a full collection lets both go.
func TestLetsGo(t *testing.T) {
	w := empty(t, 60000, 9000)
	var refs []uint64
	for i := range 300 {
		x := w.object(1, 0, 3)
		refs = append(refs, x)
		w.put(numbered(3, i), x)
	}
	for _, i := range orders(300)["mixed"] {
		if i%3 == 0 {
			w.take(numbered(3, i))
		} else if i%3 == 1 {
			w.put(numbered(3, i), w.tree)
		}
	}
	w.full()
	for i, x := range refs {
		_, _, _, e := w.heap.Head(x)
		if (e == api.OK) != (i%3 == 2) {
			t.Fatalf("the ref %d: %d", i, int(e))
		}
	}
	w.same()
	w.lean()
}

// P13.3: emptied, a tree holds nothing, is as it was made, and stays at its handle.
func TestEmptied(t *testing.T) {
	w := empty(t, 60000, 9000)
	graph, self := text(w.heap.Graph()), w.tree
	for round, n := range []int{1, 2, 15, 16, 17, 18, 100, 700} {
		for i := range n {
			w.put(numbered(3, i), w.tree)
		}
		for _, i := range rand.New(rand.NewSource(int64(round))).Perm(n) {
			w.take(numbered(3, i))
		}
		w.says("the tree", one(w.heap.Root(0)), self, api.OK)
		if text(w.heap.Graph()) != graph {
			t.Fatalf("%d entries, put and taken: the graph is changed", n)
		}
		w.same()
	}
}

// P13.3: two trees of one heap do not touch each other.
func TestTwoTrees(t *testing.T) {
	a := empty(t, 60000, 9000)
	second, e := tree.Make(a.heap)
	a.fine(e, a.heap.SetRoot(2, second))
	b := &world{T: t, heap: a.heap, c: a.c, tree: second}
	r := rand.New(rand.NewSource(2))
	for range 600 {
		w := []*world{a, b}[r.Intn(2)]
		k := numbered(2, r.Intn(100))
		if r.Intn(2) == 0 {
			w.put(k, []uint64{0, a.tree, b.tree}[r.Intn(3)])
		} else {
			w.take(k)
		}
		a.looks(k)
		b.looks(k)
	}
	a.same()
	b.same()
	a.fine(a.heap.SetRoot(0, 0))
	for _, x := range b.list {
		b.put(x.key, 0)
	}
	b.full()
	b.same()
	b.says("the other tree", text(tree.Check(a.heap, a.tree)), api.ErrStale)
}

// collect asks the collector for something by chance.
func (w *world) collect(r *rand.Rand) {
	w.Helper()
	switch n := r.Intn(40); {
	case n < 5:
		w.c.Start()
	case n < 39:
		w.c.Step(1 + r.Intn(1+r.Intn(60)))
	default:
		w.full()
		_, words := w.heap.Live()
		w.says("the top", text(w.heap.Arena().Top()), words)
	}
	w.fine(w.heap.Check())
}

// change takes an entry, so many of 10 times, or puts one; the ref that is put is new, or the tree itself, or nothing.
func (w *world) change(r *rand.Rand, most, takes int) {
	w.Helper()
	k := strings.Repeat("k", r.Intn(30)) + fmt.Sprint(r.Intn(most))
	if len(w.list) > 0 && r.Intn(10) < takes {
		k = w.list[r.Intn(len(w.list))].key
	}
	if w.heap.Arena().Free() < 2*tree.Need(len(k)) || w.heap.Table().Slots()-w.heap.Table().Count() < 50 {
		w.full()
	}
	switch n := r.Intn(10); {
	case n < takes || len(w.list) > 300:
		w.take(k)
	case n < 8:
		w.put(k, w.object(1, 0, r.Intn(4)))
	default:
		w.put(k, []uint64{0, w.tree}[n%2])
	}
	w.looks(beside(k)...)
}

// P13.3: a tree tells what a sorted list tells, through collections in steps and full ones between.
func TestThroughCollections(t *testing.T) {
	rounds, moved, entries := 0, 0, 0
	for seed := range 18 {
		r := rand.New(rand.NewSource(int64(seed)))
		w := empty(t, 4000+r.Intn(9000), 600+r.Intn(300))
		self := w.tree
		for step := range 500 {
			w.change(r, []int{30, 300, 3000}[seed%3], []int{2, 5, 7}[step*3/500])
			for range r.Intn(3) {
				w.collect(r)
			}
			if step%100 == 99 {
				w.same()
				w.through()
			}
			entries = max(entries, len(w.list))
		}
		w.says("the tree", one(w.heap.Root(0)), self, api.OK)
		w.lean()
		w.same()
		rounds, moved = rounds+w.c.Rounds(), moved+w.c.Moved()
	}
	if rounds < 300 || moved < 5000 || entries < 100 {
		t.Errorf("%d rounds, %d objects moved, %d entries", rounds, moved, entries)
	}
}

// P13.3: a node is split, or joined, whatever a collection has come to.
func TestBetweenSteps(t *testing.T) {
	for _, n := range []int{16, 17, 24, 136, 140} {
		for done := 0; done < 400; done += 1 + done/4 {
			w := planted(t, 9000, 900)
			for i := range n {
				w.put(numbered(3, 2*i), w.object(1, 0, 1))
			}
			w.fine(w.c.Start())
			steps(w, done)
			for i := range 20 {
				w.put(numbered(3, 2*i+1), w.object(1, 0, 1))
				steps(w, 1)
			}
			for i := range 2 * n {
				w.take(numbered(3, i))
				steps(w, i%2)
			}
			w.fine(w.heap.Check())
			w.full()
			w.fine(w.heap.Check())
			w.same()
		}
	}
}

// steps does so many units, one by one, or fewer, if the collection is over.
func steps(w *world, n int) {
	for range n {
		if over, e := w.c.Step(1); over || e != api.OK {
			return
		}
	}
}

// P13.3: trees that were told the same have the same graph, however their heaps were collected.
func TestSameGraph(t *testing.T) {
	for seed := range 10 {
		var graphs []string
		for other := range 3 {
			r, by := rand.New(rand.NewSource(int64(seed))), rand.New(rand.NewSource(int64(other)))
			w := empty(t, 60000, 9000)
			for range 400 {
				k := fmt.Sprint(r.Intn(200))
				if r.Intn(3) == 0 {
					w.take(k)
				} else {
					w.put(k, []uint64{0, w.tree}[r.Intn(2)])
				}
				if other > 0 {
					w.collect(by)
				}
			}
			graphs = append(graphs, fmt.Sprint(w.heap.Graph()))
		}
		if len(slices.Compact(graphs)) != 1 {
			t.Fatalf("seed %d: graphs differ", seed)
		}
	}
}
