package tree_test

import (
	"bytes"
	"fmt"
	"math/rand"
	"slices"
	"strings"
	"testing"

	"tidemark/api"
	"tidemark/heap"
	"tidemark/sample"
	"tidemark/tree"
)

// R1, R2: a heap that has no room, and handles of all kinds.
func TestNoHeap(t *testing.T) {
	for _, h := range []*heap.Heap{nil, {}} {
		w := &world{T: t, heap: h}
		w.says("Make", one(tree.Make(h)), 0, api.ErrFull)
		for _, n := range sample.Numbers(1<<32+1, 20) {
			w.refused("no heap", uint64(n), "a", api.ErrStale)
		}
	}
}

// R1, R2: handles of all kinds, in a heap that has objects.
func TestAnyHandles(t *testing.T) {
	w := planted(t, 900, 90, "a", "b")
	for _, n := range sample.Numbers(1<<32, 1<<33, 90, 91) {
		x := uint64(n)
		_, e := w.heap.Table().At(x)
		switch tag, _, _, _ := w.heap.Head(x); {
		case e != api.OK:
			w.refused("a stale handle", x, "a", api.ErrStale)
		case tag != 20:
			w.refused("another tag", x, "a", api.ErrKind)
		}
	}
	w.same()
}

// R1: a live handle whose slot's number is the place of no object, which the table alone can bring about: it is live, and
// no tree's; it may be put.
func TestNoObject(t *testing.T) {
	for _, at := range []int{1, 899, 900, 1 << 62} {
		w := planted(t, 900, 90, "a", "b")
		x, e := w.heap.Table().Make(at)
		w.fine(e)
		w.refused("no object", x, "a", api.ErrKind)
		w.put("a", x)
		w.put("c", x)
		w.same()
	}
}

// R4: keys that are handed in stay as they are, spare room too, and are not kept: changed afterwards, the tree tells what
// it told.
func TestKeysNotKept(t *testing.T) {
	w := empty(t, 90000, 900)
	for i := range 120 {
		k := strings.Repeat("k", i*i%300) + fmt.Sprint(i)
		b := append([]byte(k), "spare room"...)
		for _, call := range calls() {
			call(w.heap, w.tree, b[:len(k)])
			if string(b) != k+"spare room" {
				t.Fatalf("%q is changed: %q", k, b)
			}
		}
		tree.Put(w.heap, w.tree, b[:len(k)], w.tree)
		w.list.put(k, w.tree)
		for at := range b {
			b[at] ^= 255
		}
		w.looks(k)
	}
	w.same()
}

// R4: keys that are told are new memory, spare room too: changed, the tree tells what it told.
func TestKeysNew(t *testing.T) {
	w := planted(t, 9000, 900, "a", "bb", "ccc", strings.Repeat("d", 100), strings.Repeat("e", 8))
	var told [][]byte
	for range 3 {
		for _, x := range w.list {
			k := []byte(x.key)
			a, _, _, e := tree.Seek(w.heap, w.tree, k)
			b, _, _, f := tree.Last(w.heap, w.tree, append(slices.Clone(k), 0))
			w.fine(e, f)
			told = append(told, k, a, b)
		}
		k, _, _, e := tree.Last(w.heap, w.tree, nil)
		w.fine(e)
		told = append(told, k)
	}
	if !sample.Apart(nil, told...) {
		t.Error("keys that are told share memory")
	}
	w.same()
}

// R4: nil and an empty key are one.
func TestNilKey(t *testing.T) {
	for _, keys := range [][2][]byte{{nil, {}}, {{}, nil}, {nil, bytes.Repeat([]byte("x"), 9)[:0]}} {
		w := empty(t, 900, 90)
		w.says("Put", two(tree.Put(w.heap, w.tree, keys[0], w.tree)), 0, false, api.OK)
		w.says("Put", two(tree.Put(w.heap, w.tree, keys[1], 0)), w.tree, true, api.OK)
		w.says("Get", two(tree.Get(w.heap, w.tree, keys[0])), 0, true, api.OK)
		w.says("Seek", four(tree.Seek(w.heap, w.tree, keys[1])), "", 0, true, api.OK)
		w.says("Last", four(tree.Last(w.heap, w.tree, keys[1])), "", 0, true, api.OK)
		w.says("Take", two(tree.Take(w.heap, w.tree, keys[1])), 0, true, api.OK)
		w.says("Take", two(tree.Take(w.heap, w.tree, keys[0])), 0, false, api.OK)
	}
}

// R3: calls that only look change nothing.
func TestLooksChangeNothing(t *testing.T) {
	w := empty(t, 9000, 900)
	for i := range 60 {
		w.put(numbered(2, i), w.tree)
	}
	w.still("looks", func() {
		w.same()
		w.through()
	})
}

// R5: heaps that were told the same tell the same, whatever others were told between.
func TestHeapsApart(t *testing.T) {
	act := func(w *world, r *rand.Rand) string {
		k := fmt.Sprint(r.Intn(150))
		s := w.seek(k) + w.last(k) + w.get(k)
		if r.Intn(3) == 0 {
			return s + two(w.takes(k))
		}
		return s + two(w.puts(k, []uint64{0, w.tree}[r.Intn(2)])) + w.count()
	}
	r, s, by := rand.New(rand.NewSource(5)), rand.New(rand.NewSource(5)), rand.New(rand.NewSource(6))
	a, b, between := empty(t, 9000, 900), empty(t, 9000, 900), empty(t, 9000, 900)
	var told []string
	for range 400 {
		told = append(told, act(a, r))
		act(between, by)
	}
	for i := range told {
		if got := act(b, s); got != told[i] {
			t.Fatalf("step %d: %s, want %s", i, got, told[i])
		}
	}
	if a.picture() != b.picture() {
		t.Error("they lie in other ways")
	}
}

// greedy is a watcher that makes an object for each that is made by others.
type greedy struct {
	heap *heap.Heap
	busy bool
}

func (g *greedy) Made(uint64) {
	if !g.busy {
		g.busy = true
		g.heap.Make(200, 0, 5)
		g.busy = false
	}
}

func (g *greedy) Linked(uint64) {}

// P13.1: a watcher that takes the room while an entry is put: that is refused, and the tree is as it was, or it is there.
func TestGreedyWatcher(t *testing.T) {
	refused := 0
	for words := 20; words < 600; words += 3 {
		w := empty(t, words, 300)
		w.heap.Watch(&greedy{heap: w.heap})
		for i := range 50 {
			k := numbered(2, i*7%50)
			if _, _, e := w.puts(k, w.tree); e == api.OK {
				w.list.put(k, w.tree)
			} else {
				w.says("Put", text(e), api.ErrFull)
				refused++
			}
			w.sound()
		}
		w.same()
	}
	if refused < 100 {
		t.Errorf("%d were refused", refused)
	}
}

// linked is a watcher that keeps what it is told of.
type linked struct{ made, linked map[uint64]bool }

func (l linked) Made(x uint64)   { l.made[x] = true }
func (l linked) Linked(x uint64) { l.linked[x] = true }

// P13.3: all that a tree comes to hold is linked by a way that the heap's watcher is told of.
func TestWatched(t *testing.T) {
	for _, n := range []int{1, 16, 17, 140, 300} {
		w := empty(t, 60000, 900)
		l := linked{map[uint64]bool{}, map[uint64]bool{w.tree: true}}
		w.heap.Watch(l)
		for _, i := range rand.New(rand.NewSource(int64(n))).Perm(n) {
			w.put(numbered(3, i), w.object(1, 0, 0))
		}
		for x := range l.made {
			if !l.linked[x] {
				t.Fatalf("%d entries: an object that is not linked", n)
			}
		}
	}
}
