package heap_test

import (
	"testing"

	"tidemark/api"
	"tidemark/sample"
)

// P9.2: each call refuses a handle that is not live: 0, one whose slot was freed, one of another generation, one of a
// slot that was never taken, or that is none.
func TestStale(t *testing.T) {
	h := made(t, 60, 5)
	x, y, z := makes(t, h, 1, 2, 4), makes(t, h, 2, 1, 3), makes(t, h, 3, 1, 2)
	fine(t, h.SetRoot(0, x), h.SetRef(x, 0, z), h.SetWord(x, 0, 5))
	stale(t, h, 0)
	slid(t, h, y)
	stale(t, h, y)
	again := makes(t, h, 4, 1, 3)
	tells(t, "the slot that was freed, taken again", line(again), named(1, 2))
	stale(t, h, y)
	for slot := range 3 {
		for _, generation := range []int{0, 3, 1 << 31, 1<<32 - 1} {
			stale(t, h, named(slot, generation))
		}
	}
	for _, u := range []uint64{1, 2, 3, 99, 1 << 32, 2 << 32, 1<<64 - 1, named(3, 1), named(4, 1), named(5, 1), named(1<<20, 1), named(1<<32-2, 1), x + 1<<32, x - 1<<32} {
		stale(t, h, u)
	}
	for _, u := range []uint64{x, z, again} {
		if _, _, _, e := h.Head(u); e != api.OK {
			t.Errorf("Head of a live one: %d", int(e))
		}
	}
}

// P9.2: refs, from the first to the last; what stands beside them is refused.
func TestRefs(t *testing.T) {
	h := made(t, 100, 9)
	z := makes(t, h, 9, 0, 0)
	for _, c := range []asked{{1, 0, 0}, {2, 0, 3}, {3, 1, 1}, {4, 3, 3}, {5, 3, 9}, {6, 8, 20}} {
		x := makes(t, h, c.tag, c.refs, c.size)
		for _, i := range sample.Numbers(c.refs, c.size, 1, 4096, 64) {
			was := picture(h, x)
			if 0 <= i && i < c.refs {
				for _, y := range []uint64{z, x, 0, x} {
					tells(t, line("SetRef", c, i), line(h.SetRef(x, i, y)), api.OK)
					tells(t, line("Ref", c, i), one(h.Ref(x, i)), y, api.OK)
				}
				continue
			}
			tells(t, line("Ref", c, i), one(h.Ref(x, i)), 0, api.ErrArg)
			for _, y := range []uint64{z, x, 0, 99, named(8, 1)} {
				tells(t, line("SetRef", c, i, y), line(h.SetRef(x, i, y)), api.ErrArg)
			}
			if picture(h, x) != was {
				t.Errorf("what was refused changed the heap")
			}
		}
	}
}

// P9.2: scalars, from the first to the last, whatever their bits; what stands beside them is refused.
func TestWords(t *testing.T) {
	h := made(t, 100, 9)
	for _, c := range []asked{{1, 0, 0}, {2, 3, 3}, {3, 0, 1}, {4, 0, 3}, {5, 3, 9}, {6, 12, 20}} {
		x := makes(t, h, c.tag, c.refs, c.size)
		for _, i := range sample.Numbers(c.size-c.refs, c.refs, c.size, 1, -c.refs, 4096) {
			was := picture(h, x)
			if 0 <= i && i < c.size-c.refs {
				for _, w := range []uint64{1, 1<<64 - 1, 0, 1 << 63, x, uint64(i + 7)} {
					tells(t, line("SetWord", c, i), line(h.SetWord(x, i, w)), api.OK)
					tells(t, line("Word", c, i), one(h.Word(x, i)), w, api.OK)
				}
				continue
			}
			tells(t, line("Word", c, i), one(h.Word(x, i)), 0, api.ErrArg)
			tells(t, line("SetWord", c, i), line(h.SetWord(x, i, 77)), api.ErrArg)
			if picture(h, x) != was {
				t.Errorf("what was refused changed the heap")
			}
		}
		for i := range c.refs {
			tells(t, "Ref, behind SetWord", one(h.Ref(x, i)), 0, api.OK)
		}
	}
}

// P9.2: of several errors, x's ErrStale is the first, then i's ErrArg, then y's ErrStale.
func TestErrorOrder(t *testing.T) {
	h := made(t, 60, 5)
	x, gone := makes(t, h, 1, 2, 3), makes(t, h, 2, 2, 3)
	slid(t, h, gone)
	for _, y := range []uint64{gone, 99, named(1, 2), 1<<64 - 1} {
		for _, i := range []int{-1, 2, 3, 1<<63 - 1} {
			tells(t, line("SetRef of a stale one", i, y), line(h.SetRef(gone, i, y)), api.ErrStale)
			tells(t, line("SetRef", i, y), line(h.SetRef(x, i, y)), api.ErrArg)
			tells(t, line("SetRef", i, 0), line(h.SetRef(x, i, 0)), api.ErrArg)
		}
		was := picture(h, x)
		tells(t, line("SetRef", 1, y), line(h.SetRef(x, 1, y)), api.ErrStale)
		if picture(h, x) != was {
			t.Errorf("SetRef, refused, changed the heap")
		}
	}
	for _, i := range []int{-1, 0, 1, 9} {
		tells(t, line("SetRef of a stale one", i), line(h.SetRef(gone, i, x)), api.ErrStale)
		tells(t, line("SetRef of a stale one", i), line(h.SetRef(gone, i, 0)), api.ErrStale)
		tells(t, line("Ref of a stale one", i), one(h.Ref(gone, i)), 0, api.ErrStale)
		tells(t, line("Word of a stale one", i), one(h.Word(gone, i)), 0, api.ErrStale)
		tells(t, line("SetWord of a stale one", i), line(h.SetWord(gone, i, 1)), api.ErrStale)
	}
}

// P9.2: roots, from 0 to MaxRoots - 1; others are refused, ahead of a look at x.
func TestRoots(t *testing.T) {
	h := made(t, 60, 5)
	x, gone := makes(t, h, 1, 1, 2), makes(t, h, 2, 0, 1)
	slid(t, h, gone)
	for _, i := range sample.Numbers(15, 16, 4096) {
		was := picture(h, x)
		if i < 0 || i > 15 {
			tells(t, line("Root", i), one(h.Root(i)), 0, api.ErrArg)
			for _, y := range []uint64{x, 0, gone, 99} {
				tells(t, line("SetRoot", i, y), line(h.SetRoot(i, y)), api.ErrArg)
			}
		} else {
			for _, y := range []uint64{gone, 99, named(1, 2), named(4, 1), 1<<64 - 1} {
				tells(t, line("SetRoot", i, y), line(h.SetRoot(i, y)), api.ErrStale)
			}
		}
		if picture(h, x) != was {
			t.Errorf("what was refused changed the heap")
		}
	}
	var all [16]uint64
	for _, i := range []int{0, 15, 7, 3, 15, 0} {
		for _, y := range []uint64{x, 0, x} {
			tells(t, line("SetRoot", i, y), line(h.SetRoot(i, y)), api.OK)
			all[i] = y
			for k, want := range all {
				tells(t, line("Root", k), one(h.Root(k)), want, api.OK)
			}
		}
	}
}
