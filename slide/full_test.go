package slide_test

import (
	"testing"
)

// P11.1: Full brings the collection that is at work to its end, in whichever phase, and does one more; what it frees is
// counted from the call on.
func TestFull(t *testing.T) {
	for done := range 11 {
		w, l := begun(t, done)
		rounds, freed := 2, 6
		if done == 10 {
			freed = 0
		}
		w.says("Full", w.full()+": "+w.lies(l...), text(freed, "0 0: 0 - 3 - 7 - | 9"))
		w.says(text("behind", done, "units"), w.counts(), 0, rounds, 2)
		w.says("Full again", w.full()+": "+w.lies(l...), "0 0 0: 0 - 3 - 7 - | 9")
		w.says("the collector", w.counts(), 0, rounds+1, 2)
	}
}

// P11.1: Full with no collection at work does one.
func TestFullNoneAtWork(t *testing.T) {
	w, l := six(t)
	w.says("Full", w.full()+": "+w.lies(l...), "6 0 0: 0 - 3 - 7 - | 9")
	w.says("the collector", w.counts(), 0, 1, 2)
	w, _ = six(t)
	w.fullFollows()
}

// P11.1: Full lets go what the collection at work would have kept: what was let go since it was marked, and what was
// made since Start.
func TestFullLetsAllGo(t *testing.T) {
	for done := range units() {
		w, l := begun(t, done)
		l = append(l, w.object(0, 3))
		w.roots(0)
		w.says(text("Full behind", done, "units"), w.full()+": "+w.lies(l...), "19 0 0: - - - - - - - | 0")
		w.says("Rounds", text(w.c.Rounds()), 2)
	}
}

// P11.1: Full of an empty heap, of one where all is reached, and of one where nothing is.
func TestFullEdges(t *testing.T) {
	w := empty(t, 9, 5)
	w.says("Full of an empty heap", w.full()+": "+w.lies(), "0 0 0:  | 0")
	w.says("the collector", w.counts(), 0, 1, 0)

	l := []uint64{w.object(1, 0), w.object(1, 1), w.object(1, 0)}
	w.says("Full where nothing is reached", w.full()+": "+w.lies(l...), "7 0 0: - - - | 0")
	w.says("the collector", w.counts(), 0, 2, 0)

	l = []uint64{w.object(1, 0), w.object(1, 1), w.object(1, 0)}
	w.hold(l[2], l[1])
	w.hold(l[1], l[0])
	w.roots(0, 0, l[2])
	w.says("Full where all is reached", w.full()+": "+w.lies(l...), "0 0 0: 0 2 5 | 7")
	w.says("the collector", w.counts(), 0, 3, 0)
	w.fullFollows()
}

// P11.1: Full makes room where there was none, of words and of slots.
func TestFullMakesRoom(t *testing.T) {
	w := empty(t, 12, 4)
	var last uint64
	for k := range 40 {
		x, e := w.heap.Make(1, 1, 2)
		if e != 0 {
			w.says(text("Full", k), w.full(), 6, 0, 0)
			x = w.object(1, 1)
		}
		w.hold(x, last)
		if last != 0 {
			w.hold(last, 0)
		}
		w.roots(x)
		last = x
	}
	w.fullFollows()
}
