package slide_test

import (
	"fmt"
	"slices"
	"strings"
	"testing"

	"tidemark/api"
	"tidemark/heap"
	"tidemark/slide"
)

// world is a heap and a collector of it, in a test.
type world struct {
	*testing.T
	heap *heap.Heap
	c    *slide.Collector
}

// empty is a world without objects.
func empty(t *testing.T, words, slots int) *world {
	t.Helper()
	h, e := heap.New(words, slots)
	w := &world{t, h, slide.New(h)}
	w.fine(e)
	return w
}

// fine sees to it that calls were not refused.
func (w *world) fine(answers ...api.Errno) {
	w.Helper()
	if i := slices.IndexFunc(answers, func(e api.Errno) bool { return e != api.OK }); i >= 0 {
		w.Fatalf("call %d: %v", i, answers[i])
	}
}

// text shows answers, one behind the other.
func text(answers ...any) string {
	return strings.TrimSuffix(fmt.Sprintln(answers...), "\n")
}

// says sees to it that what was answered, or is seen, is what it should be.
func (w *world) says(what, got string, want ...any) {
	w.Helper()
	if s := text(want...); s != got {
		w.Errorf("%s: %s, want %s", what, got, s)
	}
}

// object is the handle of a new object of so many refs and scalars.
func (w *world) object(refs, scalars int) uint64 {
	w.Helper()
	x, e := w.heap.Make(1, refs, refs+scalars)
	w.fine(e)
	return x
}

// hold makes x hold these, by its first refs.
func (w *world) hold(x uint64, these ...uint64) {
	w.Helper()
	for i, y := range these {
		w.fine(w.heap.SetRef(x, i, y))
	}
}

// roots makes the lowest roots hold these.
func (w *world) roots(these ...uint64) {
	w.Helper()
	for i, x := range these {
		w.fine(w.heap.SetRoot(i, x))
	}
}

// step shows what Step answers, and the phase then.
func (w *world) step(n int) string {
	over, e := w.c.Step(n)
	return text(over, int(e), w.c.Phase())
}

// finish goes on in steps of n units till the collection is over, and tells how many steps that took.
func (w *world) finish(n int) int {
	w.Helper()
	most := 3*w.heap.Table().Count() + 3
	for k := 1; k < most; k++ {
		over, e := w.c.Step(n)
		w.fine(e)
		if over != (w.c.Phase() == 0) {
			w.Fatalf("Step(%d) tells %v in phase %d", n, over, w.c.Phase())
		}
		if over {
			return k
		}
	}
	w.Fatalf("%d steps of %d units, and the collection is not over", most, n)
	return 0
}

// full shows what Full answers, and the phase then.
func (w *world) full() string {
	freed, e := w.c.Full()
	return text(freed, int(e), w.c.Phase())
}

// counts shows the phase, the rounds, and how many objects were moved.
func (w *world) counts() string { return text(w.c.Phase(), w.c.Rounds(), w.c.Moved()) }

// places shows where objects are: + behind the place of one that is marked, - in place of one that is gone.
func (w *world) places(of ...uint64) string {
	var l []any
	for _, x := range of {
		at, e := w.heap.Table().At(x)
		head, _ := w.heap.Arena().Head(at)
		switch {
		case e != api.OK:
			l = append(l, "-")
		case head.Mark:
			l = append(l, fmt.Sprint(at, "+"))
		default:
			l = append(l, at)
		}
	}
	return text(l...)
}

// lies shows where objects are, and behind | the gap's ends, while it is open, and the top.
func (w *world) lies(of ...uint64) string {
	top := w.heap.Arena().Top()
	if low, high, open := w.heap.Arena().Gap(); open {
		return text(w.places(of...), "|", low, high, top)
	}
	return text(w.places(of...), "|", top)
}

// picture shows all that a heap tells, how it lies too.
func (w *world) picture() string {
	a := w.heap.Arena()
	low, high, open := a.Gap()
	s := fmt.Appendln(nil, w.counts(), a.Top(), low, high, open, w.heap.Table().Live(), w.heap.Graph())
	for at := a.First(); at < a.Top(); at, _ = a.Next(at) {
		head, _ := a.Head(at)
		s = fmt.Append(s, at, head)
		for i := range head.Size {
			word, _ := a.Get(at, i)
			s = fmt.Append(s, " ", word)
		}
	}
	return string(s)
}

// order is the handles of all objects, as they lie.
func (w *world) order() []uint64 {
	w.Helper()
	var l []uint64
	a := w.heap.Arena()
	for at := a.First(); at < a.Top(); at, _ = a.Next(at) {
		head, _ := a.Head(at)
		x, e := w.heap.Table().Of(head.Owner)
		w.fine(e)
		l = append(l, x)
	}
	return l
}

// reached is the handles of all that is reached.
func (w *world) reached() map[uint64]bool {
	w.Helper()
	all := map[uint64]bool{}
	var waits []uint64
	for i := range 16 {
		x, e := w.heap.Root(i)
		w.fine(e)
		waits = append(waits, x)
	}
	for len(waits) > 0 {
		x := waits[len(waits)-1]
		waits = waits[:len(waits)-1]
		if x == 0 || all[x] {
			continue
		}
		all[x] = true
		_, refs, _, e := w.heap.Head(x)
		w.fine(e)
		for i := range refs {
			y, e := w.heap.Ref(x, i)
			w.fine(e)
			waits = append(waits, y)
		}
	}
	return all
}

// fullFollows does a full collection, and sees to it that just what is reached is live then, in its order, from place 0
// on, at its handles, and all of the graph as it was.
func (w *world) fullFollows() {
	w.Helper()
	reached, graph, free := w.reached(), text(w.heap.Graph()), w.heap.Arena().Free()
	want := slices.DeleteFunc(w.order(), func(x uint64) bool { return !reached[x] })
	freed, e := w.c.Full()
	w.fine(e, w.heap.Check())
	w.says("the words freed", text(freed), w.heap.Arena().Free()-free)
	if !slices.Equal(w.order(), want) || len(w.heap.Table().Live()) != len(want) {
		w.Errorf("behind Full %d lie there, %d are live, want %d", w.order(), w.heap.Table().Live(), want)
	}
	place := 0
	for _, x := range want {
		at, e := w.heap.Table().At(x)
		_, _, size, _ := w.heap.Head(x)
		w.says(text("the place of", x), text(at, e), place, api.OK)
		place += 1 + size
	}
	objects, words := w.heap.Live()
	w.says("Top, Live", text(w.heap.Arena().Top(), objects, words), place, len(want), place)
	w.says("Graph", text(w.heap.Graph()), graph)
	w.says("the phase", text(w.c.Phase()), 0)
	w.unmarked()
}

// unmarked sees to it that no object is marked.
func (w *world) unmarked() {
	w.Helper()
	a := w.heap.Arena()
	for at := a.First(); at < a.Top(); at, _ = a.Next(at) {
		if head, _ := a.Head(at); head.Mark {
			w.Errorf("the object at %d is marked", at)
		}
	}
}
