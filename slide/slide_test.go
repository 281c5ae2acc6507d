package slide_test

import (
	"math"
	"testing"

	"tidemark/api"
	"tidemark/sample"
	"tidemark/slide"
)

// The examples of chapter 11.
func TestExamples(t *testing.T) {
	w := empty(t, 100, 20)
	z, x := w.object(0, 3), w.object(0, 2)
	w.roots(x)
	w.says("Full", w.full(), 4, 0, 0)
	w.says("Top", text(w.heap.Arena().Top()), 3)
	at, e := w.heap.Table().At(x)
	w.says("At(x)", text(at, e), 0, api.OK)
	at, e = w.heap.Table().At(z)
	w.says("At(z)", text(at, e), 0, api.ErrStale)
	w.says("Rounds", text(w.c.Rounds()), 1)

	w = empty(t, 100, 20)
	w.object(0, 3)
	w.roots(w.object(0, 2))
	w.says("Start", text(w.c.Start()), api.OK)
	over, e := w.c.Step(1)
	w.says("Step(1)", text(over, e), false, api.OK)
	w.says("Phase", text(w.c.Phase()), 1)
	over, e = w.c.Step(9)
	w.says("Step(9)", text(over, e), true, api.OK)
}

// six is a world of six objects, one behind the other: a (the root 0), c and e are reached, each from the one ahead, and
// c holds a too; b, d and f are not, and d holds a.
func six(t *testing.T) (*world, []uint64) {
	t.Helper()
	w := empty(t, 40, 20)
	l := []uint64{w.object(1, 1), w.object(0, 0), w.object(2, 1), w.object(1, 0), w.object(1, 0), w.object(0, 2)}
	w.hold(l[0], l[2])
	w.hold(l[2], l[4], l[0])
	w.hold(l[3], l[0])
	w.roots(l[0])
	w.fine(w.heap.SetWord(l[0], 0, 7), w.heap.SetWord(l[2], 0, l[5]))
	return w, l
}

// units are how six lies behind each unit of a collection, with what the unit's Step(1) tells.
func units() []string {
	return []string{
		"false 0 1: 0+ 3 4+ 8 10 12 | 15",     // a was taken from the stack
		"false 0 1: 0+ 3 4+ 8 10+ 12 | 15",    // c
		"false 0 1: 0+ 3 4+ 8 10+ 12 | 15",    // e
		"false 0 2: 0 3 4+ 8 10+ 12 | 3 3 15", // a was kept
		"false 0 2: 0 - 4+ 8 10+ 12 | 3 4 15", // b was skipped
		"false 0 2: 0 - 3 8 10+ 12 | 7 8 15",  // c
		"false 0 2: 0 - 3 - 10+ 12 | 7 10 15", // d
		"false 0 2: 0 - 3 - 7 12 | 9 12 15",   // e
		"false 0 2: 0 - 3 - 7 - | 9 15 15",    // f
		"true 0 0: 0 - 3 - 7 - | 9",           // the gap was closed
	}
}

// begun is six with so many units of a collection done.
func begun(t *testing.T, done int) (*world, []uint64) {
	t.Helper()
	w, l := six(t)
	w.fine(w.c.Start())
	for _, want := range units()[:done] {
		w.says("Step(1)", w.step(1)+": "+w.lies(l...), want)
	}
	return w, l
}

// P11.1: behind New no collection is at work, and nothing of the heap is changed: whoever watches it is told still.
func TestNew(t *testing.T) {
	w, l := six(t)
	o := &told{}
	w.heap.Watch(o)
	was := w.picture()
	w.c = slide.New(w.heap)
	w.says("the collector", w.counts(), 0, 0, 0)
	w.says("the heap", w.picture(), was)
	w.roots(l[3])
	w.says("how often another was told", text(*o), told{0, 1})
}

// idle sees to it that no collection is at work: Step, of whatever n, is refused by ErrState and changes nothing.
func (w *world) idle() {
	w.Helper()
	was := w.picture()
	for _, n := range sample.Numbers(1, 9) {
		w.says(text("Step", n), w.step(n), false, int(api.ErrState), 0)
	}
	w.says("the heap", w.picture(), was)
}

// P11.1: Step while no collection is at work: behind New, behind one that is over, and behind Full.
func TestStepNoneAtWork(t *testing.T) {
	w, _ := six(t)
	w.idle()
	w, _ = begun(t, 10)
	w.idle()
	w.says("Full", w.full(), 0, 0, 0)
	w.idle()
	w.says("Start", text(w.c.Start()), api.OK)
}

// P11.1: while a collection is at work, in either phase, Start is refused by ErrState, and Step of n below 1 by ErrArg;
// neither changes anything, and the units that follow are as ever.
func TestRefusedAtWork(t *testing.T) {
	for done, want := range units() {
		w, l := begun(t, done)
		was := w.picture()
		w.says("Start", text(w.c.Start()), api.ErrState)
		for _, n := range sample.Numbers(-7) {
			if n < 1 {
				over, e := w.c.Step(n)
				w.says(text("Step", n), text(over, e), false, api.ErrArg)
			}
		}
		w.says(text("behind", done, "units"), w.picture(), was)
		w.says("Step(1)", w.step(1)+": "+w.lies(l...), want)
	}
}

// P11.1: each unit, one by one: in phase 1 the marker's; the one that leaves nothing on the stack is still in phase 1,
// the next one begins phase 2; there each object is kept or skipped, its slot with it, and the last unit closes the gap.
func TestUnits(t *testing.T) {
	w, l := begun(t, len(units()))
	w.says("the collector", w.counts(), 0, 1, 2)
	w.says("the live ones", text(w.heap.Table().Live()), []uint64{l[0], l[2], l[4]})
	w.says("Check", text(w.heap.Check()), api.OK)
}

// P11.1: a Step of n does n units; fewer, where its units of phase 1 leave nothing on the stack (it tells false then), or
// where the collection is over.
func TestStep(t *testing.T) {
	u := units()
	for _, c := range []struct {
		n    int
		want []string
	}{
		{1, u},
		{2, []string{u[1], u[2], u[4], u[6], u[8], u[9]}},
		{3, []string{u[2], u[5], u[8], u[9]}},
		{4, []string{u[2], u[6], u[9]}},
		{5, []string{u[2], u[7], u[9]}},
		{6, []string{u[2], u[8], u[9]}},
		{7, []string{u[2], u[9]}},
		{8, []string{u[2], u[9]}},
		{math.MaxInt, []string{u[2], u[9]}},
	} {
		w, l := six(t)
		w.fine(w.c.Start())
		w.says("Phase", text(w.c.Phase()), 1)
		for k, want := range c.want {
			w.says(text("Step", c.n, "the time", k), w.step(c.n)+": "+w.lies(l...), want)
		}
		w.idle()
	}
}

// P11.1: a Step that finds the stack empty goes on with phase 2 in the same call: with no root it is the first one.
func TestNothingReached(t *testing.T) {
	for n, want := range map[int]string{
		1:           "false 0 2: - 2 3 | 0 2 4",
		2:           "false 0 2: - - 3 | 0 3 4",
		3:           "false 0 2: - - - | 0 4 4",
		4:           "true 0 0: - - - | 0",
		math.MaxInt: "true 0 0: - - - | 0",
	} {
		w := empty(t, 20, 5)
		l := []uint64{w.object(1, 0), w.object(0, 0), w.object(0, 0)}
		w.hold(l[0], l[1])
		w.fine(w.c.Start())
		w.says("Phase", text(w.c.Phase()), 1)
		w.says(text("Step", n), w.step(n)+": "+w.lies(l...), want)
	}
}

// P11.1: a collection of an empty heap has one unit.
func TestEmpty(t *testing.T) {
	for _, n := range []int{1, 2, math.MaxInt} {
		w := empty(t, 20, 5)
		for rounds := range 3 {
			w.fine(w.c.Start())
			w.says("Phase", w.counts(), 1, rounds, 0)
			w.says(text("Step", n), w.step(n)+": "+w.lies(), "true 0 0:  | 0")
			w.says("the collector", w.counts(), 0, rounds+1, 0)
		}
	}
}

// P11.1: a kept object is as it was, wherever it is now; its mark is off.
func TestKept(t *testing.T) {
	w := empty(t, 6000, 20)
	var l []uint64
	for tag, size := range []int{0, 3, 4096, 1, 0, 2, 700} {
		w.object(0, tag%3)
		x, e := w.heap.Make(tag+249, size/2, size)
		w.fine(e, w.heap.SetRoot(tag, x))
		for i := range size / 2 {
			w.fine(w.heap.SetRef(x, i, x))
		}
		for i := range size - size/2 {
			w.fine(w.heap.SetWord(x, i, uint64(1000*tag+i)^math.MaxUint64))
		}
		l = append(l, x)
	}
	shown := func() string {
		s := text(w.heap.Graph())
		for _, x := range l {
			tag, refs, size, e := w.heap.Head(x)
			s += text(tag, refs, size, e)
		}
		return s
	}
	was := shown()
	w.fine(w.c.Start())
	for k := 0; w.c.Phase() > 0; k++ {
		w.step(1)
		w.says(text("behind unit", k), shown(), was)
		w.fine(w.heap.Check())
	}
	w.unmarked()
	w.says("Moved", text(w.c.Moved()), 7)
}

// P11.1: a skipped object's slot is freed at once: the next object takes it, by another handle.
func TestSkipped(t *testing.T) {
	w, l := begun(t, 4)
	w.says("Count", text(w.heap.Table().Count()), 6)
	w.says("Step(1)", w.step(1), false, 0, 2)
	w.says("Count", text(w.heap.Table().Count()), 5)
	_, _, _, e := w.heap.Head(l[1])
	w.says("Head", text(e), api.ErrStale)
	x := w.object(0, 0)
	w.says("the handle made then", text(x), l[1]+1<<32)
	_, _, _, e = w.heap.Head(l[1])
	w.says("Head", text(e), api.ErrStale)
	w.says("how it lies", w.lies(append(l, x)...), "0 - 4+ 8 10+ 12 15+ | 3 4 16")
}

// P11.1: Start marks anew, whatever marks and collections were there before.
func TestStartAgain(t *testing.T) {
	w, l := begun(t, 10)
	a := w.heap.Arena()
	for at := a.First(); at < a.Top(); at, _ = a.Next(at) {
		w.fine(a.Mark(at, true))
	}
	w.hold(l[0], 0)
	w.fine(w.c.Start())
	w.says("Start", w.lies(l...), "0+ - 3 - 7 - | 9")
	w.says("Step(1)", w.step(1)+": "+w.lies(l...), "false 0 1: 0+ - 3 - 7 - | 9")
	w.says("Step(9)", w.step(9)+": "+w.lies(l...), "true 0 0: 0 - - - - - | 3")
	w.says("the collector", w.counts(), 0, 2, 2)
}

// P11.1: Rounds counts the collections that were brought to their end alone; Moved the objects that were kept at another
// place, in all of them.
func TestRoundsAndMoved(t *testing.T) {
	for done, moved := range []int{0, 0, 0, 0, 0, 0, 1, 1, 2, 2, 2} {
		w, _ := begun(t, done)
		w.says(text("behind", done, "units"), text(w.c.Rounds(), w.c.Moved()), done/10, moved)
	}
	w, l := begun(t, 10)
	w.fine(w.c.Start())
	w.says("Step(9), Step(2)", w.step(9)+", "+w.step(2), "false 0 1, false 0 2")
	w.says("all but at its end", w.counts(), 2, 1, 2)
	w.says("Step(9)", w.step(9), true, 0, 0)
	w.says("where nothing moved", w.counts(), 0, 2, 2)
	w.roots(l[4])
	w.says("Full", w.full()+": "+w.lies(l...), "7 0 0: - - - - 0 - | 2")
	w.says("where one moved", w.counts(), 0, 3, 3)
}
