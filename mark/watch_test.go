package mark_test

import (
	"slices"
	"testing"

	"tidemark/api"
	"tidemark/heap"
	"tidemark/mark"
	"tidemark/sample"
)

// A marker is a Watcher.
var _ heap.Watcher = (*mark.Marker)(nil)

// P10.1: what is made during a marking is marked, and not put on the stack: ahead of, between and behind its units.
func TestMade(t *testing.T) {
	h := made(t, 100, 20)
	l := many(t, h, 2, 1)
	fine(t, h.SetRoot(0, l[0]), h.SetRef(l[0], 0, l[1]))
	m := begun(t, h)
	for _, want := range []string{"1 +-+", "1 ++++", "0 +++++", "0 ++++++"} {
		l = append(l, makes(t, h, 1))
		tells(t, "Make", shown(m, l), want)
		_, e := m.Step(1)
		fine(t, e)
	}
	tells(t, "all done", shown(m, l), "0 ++++++")
}

// P10.1: what is linked during a marking by SetRef or SetRoot, if it is not marked, is marked and put on the stack, once.
func TestLinked(t *testing.T) {
	for _, c := range []struct {
		name string
		link func(h *heap.Heap, by, x uint64) api.Errno
	}{
		{"SetRef", func(h *heap.Heap, by, x uint64) api.Errno { return h.SetRef(by, 0, x) }},
		{"SetRoot", func(h *heap.Heap, _, x uint64) api.Errno { return h.SetRoot(15, x) }},
	} {
		h := made(t, 100, 20)
		l := many(t, h, 6, 2)
		fine(t, h.SetRoot(0, l[0]), h.SetRef(l[2], 0, l[4]), h.SetRef(l[2], 1, l[0]))
		m := begun(t, h)
		link := func(x uint64, want string) {
			t.Helper()
			fine(t, c.link(h, l[1], x))
			tells(t, c.name, shown(m, l), want)
		}
		link(0, "1 +-----")
		link(l[3], "2 +--+--")
		link(l[3], "2 +--+--")
		link(l[0], "2 +--+--")
		tells(t, "Step(9)", one(m.Step(9)), true, api.OK)
		link(l[3], "0 +--+--")
		link(l[2], "1 +-++--")
		link(l[2], "1 +-++--")
		tells(t, "Step(1)", one(m.Step(1)), false, api.OK)
		tells(t, "what it held", shown(m, l), "1 +-+++-")
		link(l[2], "1 +-+++-")
		link(0, "1 +-+++-")
		tells(t, "Step(1)", one(m.Step(1)), true, api.OK)
		tells(t, "all done", line(m.Running(), shown(m, l)), true, "0 +-+++-")
		link(l[4], "0 +-+++-")
	}
}

// P10.1: what is linked goes on top of the stack, and is taken ahead of what waits there.
func TestLinkedIsTakenFirst(t *testing.T) {
	h := made(t, 100, 20)
	l := many(t, h, 6, 1)
	fine(t, h.SetRoot(0, l[0]), h.SetRef(l[0], 0, l[1]), h.SetRef(l[2], 0, l[3]), h.SetRef(l[4], 0, l[5]))
	m := begun(t, h)
	fine(t, h.SetRoot(2, l[2]), h.SetRoot(1, l[4]))
	for _, want := range []string{"3 +-+-+-", "3 +-+-++", "2 +-+-++", "2 +-++++", "1 +-++++", "1 ++++++", "0 ++++++"} {
		tells(t, "the stack", shown(m, l), want)
		_, e := m.Step(1)
		fine(t, e)
	}
}

// P10.1: what is made and linked then is marked already; what it comes to hold is put on the stack.
func TestMadeThenLinked(t *testing.T) {
	h := made(t, 100, 20)
	l := many(t, h, 3, 1)
	fine(t, h.SetRef(l[0], 0, l[1]))
	m := begun(t, h)
	tells(t, "Step(1)", one(m.Step(1)), true, api.OK)
	x := makes(t, h, 1)
	l = append(l, x)
	fine(t, h.SetRoot(0, x), h.SetRef(x, 0, x))
	tells(t, "made and linked", shown(m, l), "0 ---+")
	fine(t, h.SetRef(x, 0, l[0]))
	tells(t, "it holds another", shown(m, l), "1 +--+")
	tells(t, "Step(1), Step(1)", one(m.Step(1))+" "+one(m.Step(1)), false, 0, true, 0)
	tells(t, "all done", shown(m, l), "0 ++-+")
}

// P10.1: what is refused by the heap, or is no link, marks nothing.
func TestNotLinked(t *testing.T) {
	h := made(t, 16, 5)
	l := many(t, h, 5, 1)
	slid(t, h, l[3])
	m := begun(t, h)
	tells(t, "SetRef", line(h.SetRef(l[0], 1, l[1]), h.SetRef(l[0], -1, l[1]), h.SetRef(l[3], 0, l[1])), api.ErrArg, api.ErrArg, api.ErrStale)
	tells(t, "SetRef", line(h.SetRef(l[0], 0, l[3]), h.SetRef(l[0], 0, 99)), api.ErrStale, api.ErrStale)
	tells(t, "SetRoot", line(h.SetRoot(16, l[1]), h.SetRoot(0, l[3])), api.ErrArg, api.ErrStale)
	_, e := h.Make(1, 0, 9)
	tells(t, "Make", line(e), api.ErrFull)
	fine(t, h.SetWord(l[0], 0, l[1]), h.SetRef(l[0], 0, 0), h.SetRoot(4, 0))
	tells(t, "nothing was linked", shown(m, l), "0 ---?-")
}

// P10.1: ahead of Start and behind Stop nothing is marked by what is made or linked, nor put on the stack; another Start
// watches again.
func TestWatchesWhileAtWork(t *testing.T) {
	h := made(t, 200, 40)
	l := many(t, h, 5, 1)
	m := mark.New(h)
	change := func(x uint64) {
		t.Helper()
		l = append(l, makes(t, h, 1))
		fine(t, h.SetRoot(3, x), h.SetRef(l[0], 0, x), h.SetRef(x, 0, l[4]))
	}
	change(l[1])
	tells(t, "ahead of Start", shown(m, l), "0 ------")
	fine(t, h.SetRoot(3, 0), m.Start(), m.Stop())
	change(l[2])
	tells(t, "behind Stop", shown(m, l), "0 -------")
	fine(t, h.SetRoot(3, 0), m.Start())
	steps(t, m, 1)
	change(l[2])
	tells(t, "behind another Start", shown(m, l), "2 --+-+--+")
	steps(t, m, 1)
	fine(t, m.Stop())
	change(l[3])
	tells(t, "behind another Stop", shown(m, l), "0 --+-+--+-")
}

// P10.1: a marking that was refused to begin or to end does not change who is told; Stop ends the watch.
func TestWatchIsKept(t *testing.T) {
	h := made(t, 100, 20)
	l := many(t, h, 4, 1)
	m := begun(t, h)
	tells(t, "Start", line(m.Start()), api.ErrState)
	fine(t, h.SetRoot(0, l[0]))
	tells(t, "it is told still", shown(m, l), "1 +---")
	fine(t, m.Stop())
	o := &told{}
	h.Watch(o)
	tells(t, "Stop", line(m.Stop()), api.ErrState)
	fine(t, h.SetRoot(1, l[1]))
	fine(t, m.Start(), h.SetRoot(2, l[2]), m.Stop(), h.SetRoot(3, l[3]))
	makes(t, h, 1)
	tells(t, "how often another was told", line(o.made, o.linked), 0, 1)
}

// told counts what it is told.
type told struct{ made, linked int }

func (w *told) Made(uint64)   { w.made++ }
func (w *told) Linked(uint64) { w.linked++ }

// P10.1, R1: a marker that is told by others than its heap: nothing while no marking is at work, and nothing by what
// stands for no object.
func TestToldByOthers(t *testing.T) {
	h := made(t, 100, 20)
	l := many(t, h, 3, 1)
	m := mark.New(h)
	m.Made(l[0])
	m.Linked(l[1])
	tells(t, "none at work", shown(m, l), "0 ---")
	fine(t, m.Start())
	for _, n := range sample.Numbers(7) {
		if x := uint64(n); !slices.Contains(l, x) {
			m.Made(x)
			m.Linked(x)
		}
	}
	tells(t, "told of no handle", shown(m, l), "0 ---")
	m.Made(l[0])
	m.Linked(l[0])
	m.Linked(l[1])
	m.Linked(l[1])
	tells(t, "told of handles", shown(m, l), "1 ++-")
}
