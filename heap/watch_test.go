package heap_test

import (
	"fmt"
	"testing"

	"tidemark/api"
	"tidemark/heap"
)

// watcher writes down what it is told, and what it sees then.
type watcher struct {
	told []string
	see  func(x uint64) string
}

func (w *watcher) Made(x uint64)   { w.told = append(w.told, line("made", x)+w.look(x)) }
func (w *watcher) Linked(x uint64) { w.told = append(w.told, line("linked", x)+w.look(x)) }

func (w *watcher) look(x uint64) string {
	if w.see == nil {
		return ""
	}
	return ", " + w.see(x)
}

// P9.3: a watcher is told of each handle that Make tells and that SetRef and SetRoot store, in order; not of 0, and of
// nothing else.
func TestWatch(t *testing.T) {
	h, w := made(t, 60, 4), &watcher{}
	before := makes(t, h, 1, 1, 1)
	fine(t, h.SetRoot(0, before))
	h.Watch(w)
	tells(t, "told", line(w.told), []string{})
	x, y := makes(t, h, 1, 2, 3), makes(t, h, 2, 0, 1)
	fine(t, h.SetRef(x, 1, y), h.SetRoot(15, x), h.SetRef(x, 0, x), h.SetRef(x, 0, x), h.SetRef(x, 1, 0), h.SetRoot(15, 0), h.SetRoot(2, before), h.SetRef(before, 0, y))
	fine(t, h.SetWord(x, 0, y), h.SetWord(y, 0, 0), h.Check())
	h.Head(x)
	h.Ref(x, 0)
	h.Word(x, 0)
	h.Root(2)
	h.Graph()
	h.Live()
	z := makes(t, h, 3, 0, 0)
	want := []string{line("made", x), line("made", y), line("linked", y), line("linked", x), line("linked", x), line("linked", x), line("linked", before), line("linked", y), line("made", z)}
	tells(t, "told", line(w.told), want)
}

// P9.3: a watcher is not told of what was refused.
func TestWatchRefused(t *testing.T) {
	h, w := made(t, 20, 3), &watcher{}
	x, y, z := makes(t, h, 1, 1, 2), makes(t, h, 2, 0, 1), makes(t, h, 2, 1, 1)
	h.Watch(w)
	full(t, h, asked{1, 0, 0}, asked{1, 0, 4096})
	slid(t, h, y)
	full(t, h, asked{1, 0, 15})
	for _, c := range []asked{{0, 0, 0}, {256, 0, 0}, {1, 2, 1}, {1, 0, 4097}} {
		tells(t, line("Make", c), c.of(h), 0, api.ErrArg)
	}
	for _, c := range []struct {
		x uint64
		i int
		y uint64
		e api.Errno
	}{{x, 0, y, api.ErrStale}, {x, 1, z, api.ErrArg}, {x, -1, z, api.ErrArg}, {y, 0, z, api.ErrStale}, {x, 0, 99, api.ErrStale}} {
		tells(t, line("SetRef", c), line(h.SetRef(c.x, c.i, c.y)), c.e)
	}
	tells(t, "SetRoot", line(h.SetRoot(16, x), h.SetRoot(-1, x), h.SetRoot(0, y)), api.ErrArg, api.ErrArg, api.ErrStale)
	tells(t, "told", line(w.told), []string{})
}

// P9.3: a watcher is told behind the change.
func TestWatchBehind(t *testing.T) {
	h, w := made(t, 60, 4), &watcher{}
	w.see = func(x uint64) string { return head(h.Head(x)) + ", " + line(room(h)) + ", " + line(h.Check()) }
	h.Watch(w)
	x := makes(t, h, 1, 2, 3)
	tells(t, "told of Make", line(w.told), []string{line("made", x) + ", 1 2 3 0, 4 56 4 1, 0"})
	y := makes(t, h, 2, 0, 1)
	w.told = nil
	w.see = func(uint64) string { return one(h.Ref(x, 1)) + ", " + one(h.Root(5)) }
	fine(t, h.SetRef(x, 1, y), h.SetRoot(5, x), h.SetRef(x, 1, x), h.SetRoot(5, y))
	var want []string
	for _, c := range []struct{ linked, ref, root uint64 }{{y, y, 0}, {x, y, x}, {x, x, x}, {y, x, y}} {
		want = append(want, fmt.Sprintf("linked %d, %d 0, %d 0", c.linked, c.ref, c.root))
	}
	tells(t, "told of SetRef and SetRoot", line(w.told), want)
}

// P9.3: another watcher takes the place of the one ahead; nil ends the watch.
func TestWatchEnds(t *testing.T) {
	h, w, v := made(t, 60, 9), &watcher{}, &watcher{}
	h.Watch(nil)
	x := makes(t, h, 1, 1, 1)
	h.Watch(w)
	fine(t, h.SetRoot(0, x))
	h.Watch(v)
	fine(t, h.SetRef(x, 0, x))
	h.Watch(nil)
	y := makes(t, h, 1, 1, 1)
	fine(t, h.SetRoot(1, y), h.SetRef(y, 0, x))
	h.Watch(w)
	z := makes(t, h, 1, 0, 0)
	h.Watch(w)
	fine(t, h.SetRoot(2, z))
	tells(t, "the first was told", line(w.told), []string{line("linked", x), line("made", z), line("linked", z)})
	tells(t, "the other was told", line(v.told), []string{line("linked", x)})
}

// P9.3: a heap's watcher is told of that heap alone.
func TestWatchOneHeap(t *testing.T) {
	h, other, w := made(t, 9, 3), made(t, 9, 3), &watcher{}
	h.Watch(w)
	x := makes(t, other, 1, 1, 1)
	fine(t, other.SetRoot(0, x), other.SetRef(x, 0, x))
	tells(t, "told", line(w.told), []string{})
}

// busy is a watcher that changes the heap when it is told: it ends the watch, and holds by a root what it was told of.
type busy struct{ heap *heap.Heap }

func (b busy) Made(x uint64)   { b.act(x) }
func (b busy) Linked(x uint64) { b.act(x) }

func (b busy) act(x uint64) {
	b.heap.Watch(nil)
	b.heap.SetRoot(9, x)
	b.heap.Make(7, 0, 0)
}

// P9.3: a watcher may ask and change the heap; what the call answers is as ever.
func TestWatcherActs(t *testing.T) {
	h := made(t, 60, 9)
	h.Watch(busy{h})
	tells(t, "Make", one(h.Make(1, 1, 1)), named(0, 1), api.OK)
	tells(t, "Root(9)", one(h.Root(9)), named(0, 1), api.OK)
	y := makes(t, h, 2, 0, 0)
	tells(t, "the next handle", line(y), named(2, 1))
	h.Watch(busy{h})
	tells(t, "SetRef", line(h.SetRef(named(0, 1), 0, y)), api.OK)
	tells(t, "Ref, Root(9)", one(h.Ref(named(0, 1), 0))+" "+one(h.Root(9)), y, 0, y, 0)
	tells(t, "the room", line(room(h)), 5, 55, 9, 4)
	tells(t, "Check", line(h.Check()), api.OK)
}

// thrower is a watcher that panics.
type thrower struct{ times *int }

func (w thrower) Made(uint64)   { *w.times++; panic("made") }
func (w thrower) Linked(uint64) { *w.times++; panic(api.ErrBusy) }

// R1: what a watcher throws, be it for want of a watcher, ends in the heap; the calls answer as ever.
func TestWatcherThrows(t *testing.T) {
	times := 0
	for _, w := range []heap.Watcher{thrower{&times}, thrower{}, (*thrower)(nil), (*watcher)(nil)} {
		h := made(t, 20, 3)
		h.Watch(w)
		x := makes(t, h, 1, 1, 2)
		tells(t, "SetRef", line(h.SetRef(x, 0, x)), api.OK)
		tells(t, "SetRoot", line(h.SetRoot(4, x)), api.OK)
		tells(t, "Ref, Root, Live", one(h.Ref(x, 0))+" "+one(h.Root(4))+" "+live(h.Live()), x, 0, x, 0, 1, 3)
	}
	tells(t, "how often it was told", line(times), 3)
}
