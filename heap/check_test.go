package heap_test

import (
	"testing"

	"tidemark/api"
	"tidemark/heap"
)

// linked is a heap of five objects: root 0 holds x, x holds y twice, y holds x and z, z nothing; u and v hold each
// other, and nothing reaches them.
func linked(t *testing.T) (h *heap.Heap, x, y, z, u, v uint64) {
	t.Helper()
	h = made(t, 60, 8)
	x, u, y = makes(t, h, 1, 2, 3), makes(t, h, 4, 1, 2), makes(t, h, 2, 2, 2)
	v, z = makes(t, h, 5, 2, 2), makes(t, h, 3, 1, 2)
	fine(t, h.SetRoot(0, x), h.SetRef(x, 0, y), h.SetRef(x, 1, y), h.SetRef(y, 0, x), h.SetRef(y, 1, z))
	fine(t, h.SetRef(u, 0, v), h.SetRef(v, 0, u), h.SetRef(v, 1, z))
	return h, x, y, z, u, v
}

// place is where a handle's object is.
func place(t *testing.T, h *heap.Heap, x uint64) int {
	t.Helper()
	at, e := h.Table().At(x)
	fine(t, e)
	return at
}

// P9.3: a sound heap is sound whatever is made, linked and slid, while the arena's gap is open too.
func TestCheckSound(t *testing.T) {
	tells(t, "Check of an empty heap", line(made(t, 1, 1).Check()), api.OK)
	h, x, y, _, u, v := linked(t)
	tells(t, "Check", line(h.Check()), api.OK)
	fine(t, h.SetWord(x, 0, 99), h.SetRef(y, 0, 0), h.SetRoot(3, x))
	tells(t, "Check", line(h.Check()), api.OK)
	fine(t, h.Arena().Open())
	var more []uint64
	for range 4 {
		slides(t, h, u, v)
		tells(t, "Check with the gap open", line(h.Check()), api.OK)
		more = append(more, makes(t, h, 9, 0, 0))
		tells(t, "Check with the gap open", line(h.Check()), api.OK)
	}
	for slides(t, h, u, v) {
	}
	tells(t, "Check with the gap at its end", line(h.Check()), api.OK)
	fine(t, h.Arena().Close())
	tells(t, "Check", line(h.Check()), api.OK)
	slid(t, h, more...)
	tells(t, "Check", line(h.Check()), api.OK)
	tells(t, "Live, the room", live(h.Live())+" "+line(room(h)), 3, 10, 10, 50, 8, 3)
}

// P9.3: a heap is sound while the gap has nothing ahead of it, or nothing behind it, or nothing at all beside it.
func TestCheckSoundAtGap(t *testing.T) {
	h := made(t, 20, 4)
	all := []uint64{makes(t, h, 1, 0, 2), makes(t, h, 2, 1, 1), makes(t, h, 3, 0, 0)}
	fine(t, h.SetRoot(0, all[2]), h.Arena().Open())
	for objects := 3; objects > 0; objects-- {
		tells(t, "Check, the gap", line(h.Check(), h.Table().Count()), api.OK, objects)
		if objects == 1 {
			fine(t, h.SetRoot(0, 0))
		}
		slides(t, h, all...)
	}
	tells(t, "Check of an empty heap", line(h.Check()), api.OK)
	makes(t, h, 4, 0, 1)
	tells(t, "Check", line(h.Check()), api.OK)
	slides(t, h)
	tells(t, "Check", line(h.Check()), api.OK)
	fine(t, h.Arena().Close())
	tells(t, "Check", line(h.Check()), api.OK)
}

// P9.3: a live slot whose number is no object, or an object of another owner, reached or not.
func TestCheckSlots(t *testing.T) {
	_, x, y, z, u, v := linked(t)
	for _, who := range []uint64{x, y, z, u, v} {
		for _, by := range []int{1, 2, -1, 50, 1 << 40} {
			h, _, _, _, _, _ := linked(t)
			at := place(t, h, who)
			if at+by < 0 {
				continue
			}
			fine(t, h.Table().Move(who, at+by))
			tells(t, line("Check, a number moved by", by), line(h.Check()), api.ErrForm)
			fine(t, h.Table().Move(who, at))
			tells(t, "Check, the number back", line(h.Check()), api.OK)
		}
	}
	h, _, _, _, _, _ := linked(t)
	was := []int{place(t, h, x), place(t, h, y)}
	fine(t, h.Table().Move(x, was[1]))
	tells(t, "Check, the number of another's object", line(h.Check()), api.ErrForm)
	fine(t, h.Table().Move(y, was[0]))
	tells(t, "Check, numbers exchanged", line(h.Check()), api.ErrForm)
	fine(t, h.Table().Move(x, was[0]), h.Table().Move(y, was[1]))
	tells(t, "Check, numbers back", line(h.Check()), api.OK)
	for _, at := range []int{was[1], was[0] + 1, h.Arena().Top(), 59, 60, 1 << 62} {
		w, e := h.Table().Make(at)
		fine(t, e)
		tells(t, line("Check, one slot more, of", at), line(h.Check()), api.ErrForm)
		fine(t, h.Table().Free(w))
		tells(t, "Check, the slot free again", line(h.Check()), api.OK)
	}
}

// P9.3: a slot, the first one too, where there is no object at all.
func TestCheckSlotAlone(t *testing.T) {
	for _, at := range []int{0, 1, 8, 9, 1 << 62} {
		h := made(t, 9, 3)
		for range 3 {
			_, e := h.Table().Make(at)
			fine(t, e)
			tells(t, line("Check, a slot of", at), line(h.Check()), api.ErrForm)
		}
	}
}

// P9.3: a slot whose object is gone.
func TestCheckObjectGone(t *testing.T) {
	h, _, _, _, u, v := linked(t)
	fine(t, h.Arena().Open())
	slides(t, h)
	_, e := h.Arena().Skip()
	fine(t, e)
	for slides(t, h, v) {
	}
	fine(t, h.Arena().Close())
	tells(t, "Check", line(h.Check()), api.ErrForm)
	fine(t, h.Table().Free(u))
	tells(t, "Check, its slot free too", line(h.Check()), api.OK)
}

// P9.3: an object whose owner is a slot that is free, was never taken, is none, or holds another object.
func TestCheckOwners(t *testing.T) {
	for _, owner := range []int{0, 1, 4, 5, 7, 8, 9, 1 << 19, 1<<20 - 1} {
		h, _, _, _, _, _ := linked(t)
		_, e := h.Arena().Alloc(1, 0, 0, owner)
		fine(t, e)
		tells(t, line("Check, an object more, of", owner), line(h.Check()), api.ErrForm)
	}
	_, _, _, _, u, v := linked(t)
	for _, who := range []uint64{u, v} {
		h, _, _, _, _, _ := linked(t)
		at := place(t, h, who)
		fine(t, h.Table().Free(who))
		tells(t, "Check, a slot freed", line(h.Check()), api.ErrForm)
		w := makes(t, h, 1, 0, 0)
		tells(t, "Check, the slot taken for another", line(h.Check()), api.ErrForm)
		fine(t, h.Table().Free(w))
		w, _ = h.Table().Make(at)
		tells(t, "Check, the slot taken for it, another's object left", line(w&255, h.Check()), who&255, api.ErrForm)
	}
	h := made(t, 9, 3)
	_, e := h.Arena().Alloc(1, 0, 0, 0)
	fine(t, e)
	tells(t, "Check, an object and no slot", line(h.Check()), api.ErrForm)
	_, e = h.Table().Make(0)
	fine(t, e)
	tells(t, "Check, its slot", line(h.Check()), api.OK)
}

// P9.3: a root that is not live; where nothing else is amiss.
func TestCheckRoots(t *testing.T) {
	for i := range 16 {
		h, x, _, _, u, v := linked(t)
		fine(t, h.SetRef(v, 0, 0), h.SetRoot(i, u))
		slid(t, h, u)
		tells(t, line("Check, root", i), line(h.Check()), api.ErrForm)
		makes(t, h, 9, 1, 1)
		tells(t, "Check, its slot taken again", line(h.Check()), api.ErrForm)
		fine(t, h.SetRoot(i, 0))
		tells(t, "Check, the root 0", line(h.Check()), api.OK)
		fine(t, h.SetRoot(i, x))
		tells(t, "Check, the root live", line(h.Check()), api.OK)
	}
}

// P9.3: a ref that is not live, where it is reached: at the first object and at the last; where it is not reached, all
// is well.
func TestCheckRefs(t *testing.T) {
	_, x, y, z, u, v := linked(t)
	for _, holder := range []uint64{x, y, z} {
		h, _, _, _, _, _ := linked(t)
		_, refs, _, _ := h.Head(holder)
		gone := makes(t, h, 9, 0, 1)
		fine(t, h.SetRef(holder, refs-1, gone))
		slid(t, h, gone)
		tells(t, "Check, a ref that is reached", line(h.Check()), api.ErrForm)
		makes(t, h, 9, 0, 1)
		tells(t, "Check, its slot taken again", line(h.Check()), api.ErrForm)
		root, _ := h.Root(0)
		fine(t, h.SetRoot(0, 0))
		tells(t, "Check, nothing is reached", line(h.Check()), api.OK)
		fine(t, h.SetRoot(0, root))
		tells(t, "Check, reached again", line(h.Check()), api.ErrForm)
		fine(t, h.SetRef(holder, refs-1, 0))
		tells(t, "Check, the ref 0", line(h.Check()), api.OK)
	}
	h, _, _, _, _, _ := linked(t)
	slid(t, h, u)
	tells(t, "Check, a ref that is not reached", line(h.Check()), api.OK)
	fine(t, h.SetRef(z, 0, v))
	tells(t, "Check, now it is", line(h.Check()), api.ErrForm)
}

// P9.3: refs are judged as they stand in the arena: any number that is no live handle is a fault, where it is reached.
func TestCheckOddRefs(t *testing.T) {
	for _, w := range []uint64{1, 2, 99, 1 << 32, named(0, 0), named(0, 2), named(5, 1), named(8, 1), 1<<64 - 1} {
		h, _, _, z, u, _ := linked(t)
		fine(t, h.Arena().Put(place(t, h, u), 0, w))
		tells(t, line("Check, not reached", w), line(h.Check()), api.OK)
		fine(t, h.Arena().Put(place(t, h, z), 1, w))
		tells(t, line("Check, as a scalar", w), line(h.Check()), api.OK)
		fine(t, h.Arena().Put(place(t, h, z), 0, w))
		tells(t, line("Check, reached", w), line(h.Check()), api.ErrForm)
		fine(t, h.Arena().Put(place(t, h, z), 0, 0))
		tells(t, line("Check, 0", w), line(h.Check()), api.OK)
	}
}

// R3, R5: Check and Graph and Live change nothing, and a mark is nothing to them.
func TestCheckChangesNothing(t *testing.T) {
	h, _, y, _, u, _ := linked(t)
	fine(t, h.Arena().Mark(place(t, h, y), true), h.Arena().Mark(place(t, h, u), true))
	was := picture(h, h.Table().Live()...)
	for range 3 {
		tells(t, "Check", line(h.Check()), api.OK)
		tells(t, "Live", live(h.Live()), 3, 10)
	}
	tells(t, "what it tells", picture(h, h.Table().Live()...), was)
	at, _ := h.Arena().Head(place(t, h, y))
	tells(t, "the mark", line(at.Mark), true)
}
