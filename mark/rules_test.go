package mark_test

import (
	"math/rand"
	"testing"

	"tidemark/api"
	"tidemark/heap"
	"tidemark/mark"
	"tidemark/sample"
)

// strange are handles of all kinds that stand for nothing in a heap without room.
func strange() []uint64 {
	l := []uint64{1<<32 + 1, 1 << 63}
	for _, n := range sample.Numbers(3) {
		l = append(l, uint64(n))
	}
	return l
}

// R1: a marker of a heap that has no room: there is nothing to mark.
func TestNoRoom(t *testing.T) {
	for _, m := range []*mark.Marker{mark.New(nil), mark.New(&heap.Heap{}), {}} {
		for range 2 {
			idle(t, m)
			tells(t, "Start", line(m.Start()), api.OK)
			tells(t, "Start", line(m.Start()), api.ErrState)
			for _, x := range strange() {
				m.Made(x)
				m.Linked(x)
				tells(t, line("Marked", x), one(m.Marked(x)), false, api.ErrStale)
			}
			for _, n := range sample.Numbers() {
				over, e := true, api.OK
				if n < 1 {
					over, e = false, api.ErrArg
				}
				tells(t, line("Step", n), one(m.Step(n)), over, e)
			}
			tells(t, "Running, Waiting", line(m.Running(), m.Waiting()), true, 0)
			tells(t, "Stop", line(m.Stop()), api.OK)
		}
	}
}

// R1: a nil Marker is none, and may be a heap's watcher.
func TestNoMarker(t *testing.T) {
	var m *mark.Marker
	tells(t, "Start", line(m.Start()), api.ErrArg)
	idle(t, m)
	for _, x := range strange() {
		tells(t, line("Marked", x), one(m.Marked(x)), false, api.ErrStale)
	}
	h := made(t, 20, 5)
	h.Watch(m)
	x := makes(t, h, 1)
	fine(t, h.SetRoot(0, x), h.SetRef(x, 0, x))
	tells(t, "Running, Waiting", line(m.Running(), m.Waiting()), false, 0)
}

// R1: an object that waits and is freed by others is nothing to a unit; so is a ref or a root that is not live.
func TestFreedOnTheWay(t *testing.T) {
	h := made(t, 100, 20)
	l := many(t, h, 5, 2)
	fine(t, h.SetRoot(0, l[0]), h.SetRoot(1, l[1]), h.SetRef(l[0], 0, l[2]), h.SetRef(l[0], 1, l[3]), h.SetRef(l[1], 0, l[4]))
	m := begun(t, h)
	slid(t, h, l[1], l[2])
	tells(t, "Waiting", line(m.Waiting()), 2)
	tells(t, "Step(1)", one(m.Step(1)), false, api.OK)
	tells(t, "the freed one", shown(m, l), "1 +??--")
	tells(t, "Step(1)", one(m.Step(1)), false, api.OK)
	tells(t, "the one that holds a freed one", shown(m, l), "1 +??+-")
	tells(t, "Step(1)", one(m.Step(1)), true, api.OK)
	fine(t, m.Stop(), m.Start())
	tells(t, "Start with a root that is not live", shown(m, l), "1 +??--")
}

// R1: a live handle whose slot's number is the place of no object, which the table alone can bring about: its mark is
// refused as the arena has it, and it never comes to the stack.
func TestNoObject(t *testing.T) {
	h := made(t, 20, 5)
	x := makes(t, h, 1)
	y, e := h.Table().Make(1)
	fine(t, e, h.SetRoot(0, x), h.SetRoot(1, y))
	m := begun(t, h)
	tells(t, "Waiting", line(m.Waiting()), 1)
	fine(t, h.SetRef(x, 0, y))
	tells(t, "Marked", one(m.Marked(y)), false, api.ErrArg)
	tells(t, "Step", one(m.Step(5)), true, api.OK)
	fine(t, h.Table().Move(y, 1<<62))
	tells(t, "Marked", one(m.Marked(y)), false, api.ErrArg)
}

// R1: two markers of one heap: each call ends, and the one that was begun last is told.
func TestTwoMarkers(t *testing.T) {
	h := made(t, 100, 20)
	l := many(t, h, 4, 1)
	fine(t, h.SetRoot(0, l[0]), h.SetRef(l[0], 0, l[1]))
	m, o := begun(t, h), begun(t, h)
	fine(t, h.SetRoot(1, l[2]))
	tells(t, "the stacks", line(m.Waiting(), o.Waiting()), 1, 2)
	steps(t, m, 1)
	steps(t, o, 1)
	tells(t, "what is marked", marks(o, l), "+++-")
	fine(t, m.Stop(), h.SetRoot(2, l[3]))
	tells(t, "the heap is watched no longer", shown(o, l), "0 +++-")
	fine(t, o.Stop())
}

// R3, P10.1: a marking changes nothing in the heap but marks, and what asks changes nothing at all.
func TestMarksAlone(t *testing.T) {
	for _, s := range shapes() {
		h, l := s.build(t, 12)
		was := picture(h)
		m := begun(t, h)
		for unit := range l {
			before := picture(h)
			tells(t, "Running, Waiting", line(m.Running(), m.Waiting() > 0), true, true)
			marks(m, append(l, 0, 99))
			m.Start()
			m.Step(0)
			tells(t, "the heap", picture(h), before)
			tells(t, "Step(1)", one(m.Step(1)), unit == len(l)-1, api.OK)
		}
		fine(t, m.Stop())
		for at := h.Arena().First(); at < h.Arena().Top(); at, _ = h.Arena().Next(at) {
			fine(t, h.Arena().Mark(at, false))
		}
		tells(t, "the heap without its marks", picture(h), was)
	}
}

// R5: markers that were told the same tell the same, whatever others were told between.
func TestMarkersApart(t *testing.T) {
	r, s, by := rand.New(rand.NewSource(5)), rand.New(rand.NewSource(5)), rand.New(rand.NewSource(6))
	fresh := func() *pair {
		h := made(t, 150, 30)
		return &pair{h, mark.New(h), &other{}}
	}
	a, b, between := fresh(), fresh(), fresh()
	for range 600 {
		step(t, r, a)
		step(t, by, between)
	}
	for range 600 {
		step(t, s, b)
	}
	of := a.other.names()
	tells(t, "what they tell", line(a.marker.Running(), shown(a.marker, of)), b.marker.Running(), shown(b.marker, of))
	tells(t, "the heaps", picture(a.heap), picture(b.heap))
}
