package slide_test

import (
	"math"
	"testing"

	"tidemark/api"
)

// told counts what it is told.
type told struct{ made, linked int }

func (o *told) Made(uint64)   { o.made++ }
func (o *told) Linked(uint64) { o.linked++ }

// P11.1: what is made while a collection is at work is marked and kept, whichever unit is next, though nothing holds it;
// also where the gap's high end is the top already, and the next unit would have closed it.
func TestMade(t *testing.T) {
	for done := range units() {
		w, l := begun(t, done)
		x, y := w.object(1, 1), w.object(0, 0)
		w.fine(w.heap.SetWord(x, 0, 9))
		w.says("what was made", w.places(x, y), "15+ 18+")
		w.finish(1)
		w.says(text("made behind", done, "units"), w.lies(append(l, x, y)...), "0 - 3 - 7 - 9 12 | 13")
		word, e := w.heap.Word(x, 0)
		w.says("its word", text(word, e), 9, api.OK)
		w.unmarked()
		w.says("Full lets it go", w.full()+": "+w.lies(append(l, x, y)...), "4 0 0: 0 - 3 - 7 - - - | 9")
	}
}

// P11.1: what is made behind each unit of phase 2 is one more unit each; the collection is over when none is left.
func TestMadeAgainAndAgain(t *testing.T) {
	w, l := begun(t, 9)
	for range 5 {
		l = append(l, w.object(0, 0))
		w.says("Step(1)", w.step(1), false, 0, 2)
	}
	w.says("how it lies", w.lies(l...), "0 - 3 - 7 - 9 10 11 12 13 | 14 20 20")
	w.says("Step(1)", w.step(1)+": "+w.lies(l...), "true 0 0: 0 - 3 - 7 - 9 10 11 12 13 | 14")
}

// P11.1: the words that skipped objects took are free at the end of the collection, not ahead of it.
func TestRoomAtTheEnd(t *testing.T) {
	w, _ := begun(t, 9)
	_, e := w.heap.Make(1, 0, 25)
	w.says("Make ahead of the end", text(e, w.heap.Arena().Free()), api.ErrFull, 25)
	w.says("Step(1)", w.step(1), true, 0, 0)
	_, e = w.heap.Make(1, 0, 25)
	w.says("Make behind it", text(e), api.OK)
}

// P11.1: what is linked in phase 1, by a ref or a root, is kept, with what it holds; also what it is made to hold then.
func TestLinkedInPhase1(t *testing.T) {
	for by, link := range map[string]func(w *world, l []uint64){
		"a ref":  func(w *world, l []uint64) { w.hold(l[4], l[3]) },
		"a root": func(w *world, l []uint64) { w.roots(l[0], l[3]) },
		"a new object": func(w *world, l []uint64) {
			x := w.object(1, 0)
			w.hold(x, l[3])
			w.roots(l[0], x)
		},
	} {
		for done := range 4 {
			w, l := begun(t, done)
			link(w, l)
			w.hold(l[3], l[1])
			graph := text(w.heap.Graph())
			w.finish(1)
			w.says("linked by "+by, w.places(l...), "0 3 4 8 10 -")
			w.says("Graph", text(w.heap.Graph()), graph)
			w.fine(w.heap.Check())
		}
	}
}

// P11.1: where something is linked behind the unit that left nothing on the stack, the next Step goes on with phase 1.
func TestLinkedBehindPhase1(t *testing.T) {
	for n, want := range map[int]string{
		1:           "false 0 2: 0 3 4+ 8+ 10+ 12+ | 3 3 15",
		2:           "false 0 2: 0 - 4+ 8+ 10+ 12+ | 3 4 15",
		math.MaxInt: "true 0 0: 0 - 3 7 9 11 | 14",
	} {
		w, l := begun(t, 3)
		w.hold(l[4], l[3])
		w.hold(l[3], l[5])
		for range max(1, 3-n) {
			w.says(text("Step", n), w.step(n)+": "+w.lies(l...), "false 0 1: 0+ 3 4+ 8+ 10+ 12+ | 15")
		}
		w.says(text("Step", n), w.step(n)+": "+w.lies(l...), want)
	}
}

// P11.1: what was reached at Start and is let go then is kept if it was marked already, till the next collection.
func TestLetGo(t *testing.T) {
	for done, want := range []string{"0 - - - - - | 3", "0 - 3 - - - | 7", "0 - 3 - 7 - | 9", "0 - 3 - 7 - | 9", "0 - 3 - 7 - | 9"} {
		w, l := begun(t, done)
		w.roots(0)
		w.hold(l[0], 0)
		w.hold(l[2], 0, 0)
		w.finish(1)
		w.says(text("let go behind", done, "units"), w.lies(l...), want)
		w.full()
		w.says("Full", w.lies(l...), "- - - - - - | 0")
	}
}

// P11.1: in phase 2 objects hold one another as they are told to, on both sides of the gap; what was made since Start,
// in whichever phase, is there to be held.
func TestLinkedInPhase2(t *testing.T) {
	for young := range 2 {
		for done := 4; done < 10; done++ {
			w, l := begun(t, 3*young)
			x := w.object(2, 0)
			for range done - 3*young {
				w.step(1)
			}
			w.says("Phase", text(w.c.Phase()), 2)
			y := w.object(2, 0)
			w.roots(l[2], l[4])
			w.hold(l[4], x)
			w.hold(x, y, l[2])
			w.hold(y, l[4])
			graph := text(w.heap.Graph())
			for over := false; !over; {
				over, _ = w.c.Step(1)
				w.says("Graph", text(w.heap.Graph()), graph)
				w.fine(w.heap.Check())
			}
			w.says("how it lies", w.lies(append(l, x, y)...), "0 - 3 - 7 - 9 12 | 15")
		}
	}
}

// P11.1: behind a collection nobody watches the heap: neither the collector, nor who did ahead of it.
func TestNobodyWatches(t *testing.T) {
	for _, end := range []func(w *world){
		func(w *world) { w.step(9); w.step(9) },
		func(w *world) { w.full() },
	} {
		w, l := six(t)
		o := &told{}
		w.heap.Watch(o)
		w.fine(w.c.Start())
		end(w)
		x := w.object(1, 0)
		w.hold(x, l[2])
		w.roots(l[4], x)
		w.says("how it lies", w.lies(append(l, x)...), "0 - 3 - 7 - 9 | 11")
		w.says("how often another was told", text(*o), told{})
		w.heap.Watch(o)
		w.idle()
		w.object(1, 0)
		w.says("how often another was told", text(*o), told{1, 0})
	}
}
