package heap_test

import (
	"math/rand"
	"testing"

	"tidemark/api"
	"tidemark/heap"
	"tidemark/sample"
)

// without sees to it that a heap that has no room tells nothing, at all arguments.
func without(t *testing.T, h *heap.Heap) {
	t.Helper()
	h.Watch(&watcher{})
	for range 2 {
		tells(t, "the room", line(room(h)), 0, 0, 0, 0)
		tells(t, "Graph", line(h.Graph()), rooted(""))
		tells(t, "Live, Check", live(h.Live())+" "+line(h.Check()), 0, 0, api.OK)
		full(t, h, asked{1, 0, 0}, asked{255, 4096, 4096})
		for _, n := range sample.Numbers(256, 4097) {
			tells(t, line("Make", n), one(h.Make(n, 1, 0)), 0, api.ErrArg)
			stale(t, h, uint64(n))
			want, e := api.ErrStale, api.OK
			if n < 0 || n > 15 {
				want, e = api.ErrArg, api.ErrArg
			}
			tells(t, line("SetRoot", n), line(h.SetRoot(n, 5)), want)
			tells(t, line("SetRoot to 0", n), line(h.SetRoot(n, 0)), e)
			tells(t, line("Root", n), one(h.Root(n)), 0, e)
		}
		stale(t, h, named(0, 1))
	}
	h.Watch(nil)
}

// R1: a heap that New did not make, or that it refused, has no room.
func TestNoHeap(t *testing.T) {
	without(t, &heap.Heap{})
	without(t, nil)
	h, _ := heap.New(0, 1)
	without(t, h)
	h, _ = heap.New(1, 0)
	without(t, h)
}

// R1: no call panics, whatever numbers it is handed; each is as the other hand has it.
func TestAnyNumbers(t *testing.T) {
	a := paired(t, 60, 9)
	numbers := sample.Numbers(3, 255, 4096)
	for _, tag := range numbers {
		for _, refs := range numbers {
			for _, size := range numbers {
				tells(t, line("Make", tag, refs, size), one(a.heap.Make(tag, refs, size)), a.other.make(tag, refs, size))
			}
		}
	}
	handles := []uint64{named(0, 1), named(5, 1)}
	for _, n := range numbers {
		handles = append(handles, uint64(n))
	}
	for _, x := range handles {
		for _, i := range numbers {
			tells(t, line("SetWord", x, i), line(a.heap.SetWord(x, i, x)), a.other.setWord(x, i, x))
			tells(t, line("SetRoot", i, x), line(a.heap.SetRoot(i, x)), a.other.setRoot(i, x))
			for _, y := range handles {
				tells(t, line("SetRef", x, i, y), line(a.heap.SetRef(x, i, y)), a.other.setRef(x, i, y))
			}
		}
	}
	of := append(handles, a.other.names()...)
	tells(t, "what it tells", outside(a.heap, of...), a.other.outside(of...))
}

// R1: a live handle whose slot's number is the place of no object, which the table alone can bring about: what asks for
// the object is refused as the arena has it, and it is nothing to the graph.
func TestNoObject(t *testing.T) {
	h := made(t, 20, 5)
	x := makes(t, h, 1, 1, 3)
	for _, at := range []int{1, 3, 4, 19, 20, 1 << 62} {
		y, e := h.Table().Make(at)
		fine(t, e, h.SetRoot(2, y), h.SetRef(x, 0, y), h.SetRoot(0, x))
		tells(t, "Head", head(h.Head(y)), 0, 0, 0, api.ErrArg)
		tells(t, "Ref", one(h.Ref(y, 0)), 0, api.ErrArg)
		tells(t, "Word", one(h.Word(y, 0)), 0, api.ErrArg)
		tells(t, "SetRef, SetWord", line(h.SetRef(y, 0, x), h.SetWord(y, 0, 7)), api.ErrArg, api.ErrArg)
		tells(t, "Graph", line(h.Graph()), rooted("{1 [-1] [0 0]}", 0))
		tells(t, "Live, Check", live(h.Live())+" "+line(h.Check()), 1, 4, api.ErrForm)
		fine(t, h.SetRoot(2, 0), h.SetRef(x, 0, 0), h.Table().Free(y))
	}
}

// R1: two handles of one object, which the table alone can bring about: it is one object still.
func TestOneObjectTwoHandles(t *testing.T) {
	h := made(t, 20, 5)
	x, y := makes(t, h, 1, 1, 2), makes(t, h, 2, 1, 3)
	fine(t, h.SetRoot(0, x), h.SetRoot(1, y), h.SetRef(y, 0, x), h.Table().Move(x, place(t, h, y)), h.SetWord(x, 0, 7))
	tells(t, "Word", one(h.Word(y, 0)), 7, api.OK)
	tells(t, "Graph", line(h.Graph()), rooted("{2 [0] [7 0]}", 0, 0))
	tells(t, "Live, Check", live(h.Live())+" "+line(h.Check()), 1, 4, api.ErrForm)
}

// R5: heaps that were told the same tell the same, whatever others were told between.
func TestHeapsApart(t *testing.T) {
	r, s, by := rand.New(rand.NewSource(5)), rand.New(rand.NewSource(5)), rand.New(rand.NewSource(6))
	a, b, between := paired(t, 80, 12), paired(t, 80, 12), paired(t, 90, 15)
	for range 400 {
		step(t, r, a)
		step(t, by, between)
	}
	for range 400 {
		step(t, s, b)
	}
	of := a.other.names()
	tells(t, "what they tell", picture(a.heap, of...), picture(b.heap, of...))
	tells(t, "what the watchers were told", line(a.watcher.told), b.watcher.told)
}
