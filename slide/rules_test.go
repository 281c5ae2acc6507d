package slide_test

import (
	"math"
	"math/rand"
	"testing"

	"tidemark/api"
	"tidemark/heap"
	"tidemark/sample"
	"tidemark/slide"
)

// R1: a collector of a heap that has no room: its collections have one unit.
func TestNoRoom(t *testing.T) {
	for _, h := range []*heap.Heap{nil, {}} {
		w := &world{t, h, slide.New(h)}
		for i, n := range []int{1, 2, math.MaxInt} {
			w.says("the collector", w.counts(), 0, 2*i, 0)
			w.idle()
			w.says("Start", text(w.c.Start(), w.c.Start()), api.OK, api.ErrState)
			w.says("Step(0)", w.step(0), false, 1, 1)
			w.says(text("Step", n), w.step(n), true, 0, 0)
			w.says("Full", w.full(), 0, 0, 0)
		}
		w.fine(w.c.Start())
		w.says("Full at work", w.full(), 0, 0, 0)
		w.says("Rounds", text(w.c.Rounds()), 8)
	}
}

// R1: a nil Collector, and one that New did not make, are none.
func TestNoCollector(t *testing.T) {
	for _, c := range []*slide.Collector{nil, {}} {
		w := empty(t, 9, 3)
		w.c = c
		for range 2 {
			w.idle()
			w.says("Start", text(c.Start()), api.ErrArg)
			w.says("Full", w.full(), 0, 1, 0)
			w.says("the collector", w.counts(), 0, 0, 0)
		}
	}
}

// R1, R2, R3: any numbers, at any time: what is refused tells false, and changes nothing.
func TestAnyNumbers(t *testing.T) {
	r := rand.New(rand.NewSource(1))
	p := shapes()[5].built(t, 30, 1)
	for range 20 {
		for _, n := range sample.Numbers(2, 40) {
			if r.Intn(3) == 0 {
				p.says("Start", text(p.c.Start()), p.other.start())
			}
			p.says(text("Step", n), p.step(n), p.other.step(n))
			p.change(r, p.other.linkable())
			p.same()
			p.sameGraph()
		}
	}
}

// passes brings the object behind the gap ahead of it, by hand.
func (w *world) passes() {
	w.Helper()
	_, high, _ := w.heap.Arena().Gap()
	head, e := w.heap.Arena().Head(high)
	w.fine(e)
	x, e := w.heap.Table().Of(head.Owner)
	_, to, f := w.heap.Arena().Keep()
	w.fine(e, f, w.heap.Table().Move(x, to))
}

// R1: others that hold the arena itself go on with the gap, to its end or not, or close it: the collection is over when no
// object is left behind it.
func TestGapByOthers(t *testing.T) {
	for done := 4; done < 10; done++ {
		for others := range 10 - done {
			for _, closed := range []bool{false, true} {
				w, l := begun(t, done)
				graph := text(w.heap.Graph())
				for range others {
					w.passes()
				}
				if closed && w.heap.Arena().Close() != api.OK {
					continue
				}
				w.says("the steps left", text(w.finish(1)), max(10-done-others, 1))
				w.says("Graph", text(w.heap.Graph()), graph)
				w.says("the collector", text(w.c.Phase(), w.c.Rounds()), 0, 1)
				w.fine(w.heap.Check())
				w.fullFollows()
				w.says("how it lies", w.lies(l...), "0 - 3 - 7 - | 9")
			}
		}
	}
}

// R1: a gap that others opened, ahead of phase 2, is gone on with.
func TestGapOpenedByOthers(t *testing.T) {
	for done := range 4 {
		for others := range 7 {
			w, l := begun(t, done)
			graph := text(w.heap.Graph())
			w.fine(w.heap.Arena().Open())
			for range others {
				w.passes()
			}
			w.finish(2)
			w.says("Graph", text(w.heap.Graph()), graph)
			w.fine(w.heap.Check())
			w.fullFollows()
			w.says("how it lies", w.lies(l...), "0 - 3 - 7 - | 9")
		}
	}
}

// R1: objects that no slot knows, and slots that know no object, which the arena and the table alone can bring about, are
// nothing to others: such an object is kept or skipped by its mark, and such a slot stays.
func TestStrangers(t *testing.T) {
	w, l := six(t)
	at, e := w.heap.Arena().Alloc(9, 1, 1, 19)
	w.fine(e)
	_, e = w.heap.Arena().Alloc(9, 0, 2, api.MaxHandles-1)
	w.fine(e)
	x, e := w.heap.Table().Make(1)
	y, f := w.heap.Table().Make(1 << 62)
	w.fine(e, f, w.heap.SetRoot(1, x), w.heap.SetRoot(2, y), w.c.Start(), w.heap.Arena().Mark(at, true))
	w.finish(1)
	w.says("how it lies", w.lies(append(l, x, y)...), "0 - 3 - 7 - 1", 1<<62, "| 11")
	head, e := w.heap.Arena().Head(9)
	w.says("the object that was marked", text(head.Tag, head.Mark, e), 9, false, api.OK)
	w.says("Full", w.full(), 2, 0, 0)
	w.says("how it lies", w.lies(append(l, x, y)...), "0 - 3 - 7 - 1", 1<<62, "| 9")
}

// R1: two collectors of one heap that are at work at once may let go what is reached; but each call ends.
func TestTwoCollectors(t *testing.T) {
	for seed := range 40 {
		r := rand.New(rand.NewSource(int64(seed)))
		p := shapes()[seed%6].built(t, 20, 1)
		both := []*slide.Collector{p.c, slide.New(p.heap)}
		for range 200 {
			c := both[r.Intn(2)]
			switch r.Intn(9) {
			case 0:
				c.Start()
			case 1:
				p.heap.Make(1, 1, 1)
			case 2:
				if _, e := c.Full(); e != api.OK || c.Phase() != 0 {
					t.Fatalf("Full: %v, phase %d", e, c.Phase())
				}
			default:
				c.Step(r.Intn(30))
			}
		}
	}
}

// R1: one behind the other, collectors of one heap do not disturb each other.
func TestCollectorsInTurn(t *testing.T) {
	w, l := begun(t, 10)
	o := &world{t, w.heap, slide.New(w.heap)}
	w.hold(l[2], 0)
	o.says("Full", o.full()+": "+o.lies(l...), "2 0 0: 0 - 3 - - - | 7")
	o.says("the collectors", o.counts()+", "+w.counts(), "0 1 0, 0 1 2")
	w.hold(l[0], 0)
	w.says("Full", w.full()+": "+w.lies(l...), "4 0 0: 0 - - - - - | 3")
	w.says("the collectors", o.counts()+", "+w.counts(), "0 1 0, 0 2 2")
}

// R5: collectors that were told the same tell the same, whatever others were told between.
func TestCollectorsApart(t *testing.T) {
	r, s, by := rand.New(rand.NewSource(5)), rand.New(rand.NewSource(5)), rand.New(rand.NewSource(6))
	a, b, between := paired(t, 150, 30), paired(t, 150, 30), paired(t, 90, 40)
	for range 500 {
		a.act(r, a.other.linkable())
		between.act(by, between.other.linkable())
	}
	for range 500 {
		b.act(s, b.other.linkable())
	}
	a.says("what they tell", a.picture(), b.picture())
}
