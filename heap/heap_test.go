package heap_test

import (
	"testing"

	"tidemark/api"
	"tidemark/heap"
	"tidemark/sample"
)

// The examples of chapter 9.
func TestExamples(t *testing.T) {
	h := made(t, 100, 10)
	x, e := h.Make(1, 1, 2)
	y, f := h.Make(2, 0, 1)
	tells(t, "Make, Make", line(x, e, y, f), named(0, 1), api.OK, named(1, 1), api.OK)
	tells(t, "SetRef(x, 0, y)", line(h.SetRef(x, 0, y)), api.OK)
	tells(t, "SetRoot(3, x)", line(h.SetRoot(3, x)), api.OK)
	tells(t, "Graph", line(h.Graph()), "{[-1 -1 -1 0 -1 -1 -1 -1 -1 -1 -1 -1 -1 -1 -1 -1] [{1 [1] [0]} {2 [] [0]}]}")

	tells(t, "Live", live(h.Live()), 2, 5)
	tells(t, "Ref(y, 0)", one(h.Ref(y, 0)), 0, api.ErrArg)
	tells(t, "SetRef(x, 0, 99)", line(h.SetRef(x, 0, 99)), api.ErrStale)
	tells(t, "Make(0, 0, 0)", one(h.Make(0, 0, 0)), 0, api.ErrArg)
}

// P9.1: New refuses words that are not from 1 to MaxWords, and slots that are not from 1 to MaxHandles; a new heap is
// empty.
func TestNew(t *testing.T) {
	for _, n := range sample.Numbers(1, 1048576) {
		for _, c := range []struct{ words, slots int }{{n, 1}, {1, n}, {n, n}, {n, 0}, {0, n}, {n, 1048576}, {n, 1048577}, {1048577, n}} {
			h, e := heap.New(c.words, c.slots)
			if c.words < 1 || c.words > 1048576 || c.slots < 1 || c.slots > 1048576 {
				tells(t, line("New", c), line(h == nil, e), true, api.ErrArg)
				continue
			}
			tells(t, line("New", c), line(h != nil, e), true, api.OK)
			tells(t, line("the heap of", c), line(h.Arena().Words(), h.Arena().Top(), h.Table().Slots(), h.Table().Count()), c.words, 0, c.slots, 0)
			for i := range 16 {
				tells(t, line("Root", i), one(h.Root(i)), 0, api.OK)
			}
		}
	}
}

// P9.1: the arena and the table of a heap stay the same, and are no other heap's.
func TestArenaAndTable(t *testing.T) {
	h, other := made(t, 10, 3), made(t, 10, 3)
	a, names := h.Arena(), h.Table()
	makes(t, h, 1, 0, 2)
	tells(t, "the arena, the table", line(h.Arena() == a, h.Table() == names, a.Top(), names.Count()), true, true, 3, 1)
	tells(t, "another heap's", line(room(other)), 0, 10, 3, 0)
}

// asked is what Make is handed.
type asked struct{ tag, refs, size int }

func (c asked) of(h *heap.Heap) string { return one(h.Make(c.tag, c.refs, c.size)) }

// empty sees to it that an object's refs and scalars are 0.
func empty(t *testing.T, h *heap.Heap, x uint64) {
	t.Helper()
	_, refs, size, e := h.Head(x)
	fine(t, e)
	for i := range refs {
		tells(t, line("Ref", x, i), one(h.Ref(x, i)), 0, api.OK)
	}
	for i := range size - refs {
		tells(t, line("Word", x, i), one(h.Word(x, i)), 0, api.OK)
	}
}

// P9.1: an object's tag, refs and size, at both ends of each, with room to spare and with none.
func TestMakeTakes(t *testing.T) {
	for _, c := range []asked{
		{1, 0, 0}, {255, 0, 0}, {1, 0, 1}, {1, 1, 1}, {1, 0, 4096}, {1, 4096, 4096}, {255, 4096, 4096}, {128, 4095, 4096},
		{2, 2048, 2049}, {7, 3, 5},
	} {
		for _, spare := range []int{0, 1, 5000} {
			h, call := made(t, c.size+1+spare, 1+spare), line("Make", c)
			tells(t, call, c.of(h), named(0, 1), api.OK)
			tells(t, call+", its head", head(h.Head(named(0, 1))), c.tag, c.refs, c.size, api.OK)
			tells(t, call+", the room", line(room(h)), c.size+1, spare, 1+spare, 1)
			empty(t, h, named(0, 1))
		}
	}
}

// P9.1: an object's owner is its slot, the slot's number is its place, and its refs stand first.
func TestMakePlaces(t *testing.T) {
	h := made(t, 50, 9)
	top := 0
	for slot, c := range []asked{{1, 2, 5}, {2, 0, 0}, {3, 1, 1}, {4, 0, 6}} {
		tells(t, line("Make", c), c.of(h), named(slot, 1), api.OK)
		tells(t, "At", one(h.Table().At(named(slot, 1))), top, api.OK)
		at, e := h.Arena().Head(top)
		tells(t, "the arena's head", line(at.Tag, at.Refs, at.Size, at.Mark, at.Owner, e), c.tag, c.refs, c.size, false, slot, api.OK)
		top += 1 + c.size
		tells(t, "the room", line(room(h)), top, 50-top, 9, slot+1)
	}
	x, y := named(0, 1), named(2, 1)
	fine(t, h.SetRef(x, 1, y), h.SetWord(x, 0, 70), h.SetWord(x, 2, 72))
	for i, w := range []uint64{0, y, 70, 0, 72} {
		tells(t, line("the arena's Get", i), one(h.Arena().Get(0, i)), w, api.OK)
	}
}

// P9.1: an object's tag, refs and size beyond their ends: ErrArg, also where the arena, the table or both have no room.
func TestMakeRefuses(t *testing.T) {
	refused := []asked{{1, 0, 4097}, {1, 4097, 4096}, {1, 2, 1}, {1, 1, 0}, {256, 0, 0}, {0, 0, 0}, {1, -1, 0}, {1, 0, -1}, {1, -1, -1}, {257, 0, 0}}
	for _, n := range sample.Numbers(-256, -255) {
		refused = append(refused, asked{min(n, 0), 0, 1}, asked{max(256, n), 0, 1}, asked{n, n, -1}, asked{1, 0, min(-1, n)},
			asked{1, 0, max(4097, n)}, asked{1, min(-1, n), 1}, asked{1, max(2, n), 1})
	}
	for _, c := range []struct{ words, slots int }{{10000, 10}, {4, 10}, {10000, 1}, {4, 1}} {
		h := made(t, c.words, c.slots)
		x := makes(t, h, 9, 1, 3)
		was := picture(h, x)
		for _, c := range refused {
			tells(t, line("Make", c), c.of(h), 0, api.ErrArg)
		}
		if picture(h, x) != was {
			t.Errorf("Make, refused, changed the heap of %v", c)
		}
	}
}

// full sees to it that objects are refused for want of room, and that nothing is changed.
func full(t *testing.T, h *heap.Heap, all ...asked) {
	t.Helper()
	was := picture(h, h.Table().Live()...)
	for _, c := range all {
		tells(t, line("Make", c), c.of(h), 0, api.ErrFull)
	}
	if now := picture(h, h.Table().Live()...); now != was {
		t.Errorf("Make, refused, changed the heap:\n%s\nwas\n%s", now, was)
	}
}

// P9.1: where the arena has no room, nothing is changed: neither which slot is next, nor its generation.
func TestMakeArenaFull(t *testing.T) {
	h := made(t, 5, 4)
	x := makes(t, h, 1, 0, 2)
	full(t, h, asked{1, 0, 2}, asked{1, 2, 2}, asked{255, 0, 4096}, asked{1, 0, 2})
	tells(t, "Make of the rest", one(h.Make(1, 1, 1)), named(1, 1), api.OK)
	full(t, h, asked{1, 0, 0}, asked{1, 1, 1}, asked{1, 4096, 4096})
	slid(t, h, x)
	full(t, h, asked{1, 0, 3}, asked{1, 3, 4})
	tells(t, "Make in a slot that was freed", one(h.Make(1, 0, 0)), named(0, 2), api.OK)
	full(t, h, asked{1, 0, 2})
	tells(t, "Make in a slot that was never taken", one(h.Make(1, 0, 1)), named(2, 1), api.OK)
	full(t, h, asked{1, 0, 0})
	stale(t, h, named(3, 1))
	tells(t, "the room", line(room(h)), 5, 0, 4, 3)
}

// P9.1: where the table has no room, nothing is changed: no word of the arena is taken.
func TestMakeTableFull(t *testing.T) {
	h := made(t, 100, 2)
	x, y := makes(t, h, 1, 0, 2), makes(t, h, 2, 1, 3)
	full(t, h, asked{1, 0, 0}, asked{1, 0, 92}, asked{1, 0, 93}, asked{1, 0, 4096})
	tells(t, "the room", line(room(h)), 7, 93, 2, 2)
	slid(t, h, x)
	tells(t, "Make", one(h.Make(3, 0, 1)), named(0, 2), api.OK)
	tells(t, "its place", one(h.Table().At(named(0, 2))), 4, api.OK)
	tells(t, "the room", line(room(h)), 6, 94, 2, 2)
	full(t, h, asked{1, 0, 0})
	tells(t, "Head of the other", head(h.Head(y)), 2, 1, 3, api.OK)
}

// P9.1: where neither has room, and an object of no words still needs one for its head.
func TestMakeBothFull(t *testing.T) {
	for n := 1; n < 70; n++ {
		h := made(t, n, n)
		for range n {
			makes(t, h, 1, 0, 0)
		}
		full(t, h, asked{1, 0, 0}, asked{1, 1, 1}, asked{255, 0, 4096})
		tells(t, "the room", line(room(h)), n, 0, n, n)
		slid(t, h, named(n-1, 1))
		full(t, h, asked{1, 0, 1})
		tells(t, "Make", one(h.Make(1, 0, 0)), named(n-1, 2), api.OK)
	}
}

// P9.1: a heap of as many words and slots as there may be, to the last of both.
func TestMakeAll(t *testing.T) {
	h := made(t, 1048576, 1048576)
	for k := range 1048576 {
		if x, e := h.Make(1+k%255, 0, 0); x != named(k, 1) || e != api.OK {
			t.Fatalf("Make %d: %d %d", k, x, int(e))
		}
	}
	tells(t, "Make of one more", one(h.Make(1, 0, 0)), 0, api.ErrFull)
	tells(t, "the room", line(room(h)), 1048576, 0, 1048576, 1048576)
	tells(t, "Head of the last", head(h.Head(named(1048575, 1))), 1+1048575%255, 0, 0, api.OK)
	tells(t, "Check", line(h.Check()), api.OK)
}

// P9.1: a new object's refs and scalars are 0, also where others lay before.
func TestMakeIsZero(t *testing.T) {
	for kept := range 3 {
		h := made(t, 24, 9)
		var all []uint64
		for _, c := range []asked{{1, 2, 4}, {2, 6, 6}, {3, 0, 3}, {4, 1, 2}} {
			all = append(all, makes(t, h, c.tag, c.refs, c.size))
		}
		for _, x := range all {
			_, refs, size, _ := h.Head(x)
			for i := range refs {
				fine(t, h.SetRef(x, i, all[3]))
			}
			for i := range size - refs {
				fine(t, h.SetWord(x, i, 1<<64-1))
			}
		}
		slid(t, h, all[kept:]...)
		rest := h.Arena().Free() - 1
		x := makes(t, h, 9, rest/2, rest)
		tells(t, "its head", head(h.Head(x)), 9, rest/2, rest, api.OK)
		empty(t, h, x)
	}
}

// P9.1: with the arena's gap open, objects are made as well, at the top.
func TestMakeWithGap(t *testing.T) {
	h := made(t, 20, 9)
	x, y, z := makes(t, h, 1, 0, 3), makes(t, h, 2, 1, 2), makes(t, h, 3, 1, 1)
	fine(t, h.Arena().Open())
	slides(t, h, x)
	slides(t, h)
	full(t, h, asked{1, 0, 11})
	v := makes(t, h, 4, 1, 10)
	tells(t, "the handle", line(v), named(0, 2))
	tells(t, "its place", one(h.Table().At(v)), 9, api.OK)
	full(t, h, asked{1, 0, 0})
	for i, w := range []uint64{y, z, v} {
		fine(t, h.SetRef(w, 0, v), h.SetRoot(i, w))
		tells(t, "Ref", one(h.Ref(w, 0)), v, api.OK)
	}
	was := line(h.Graph())
	tells(t, "Live, Check", live(h.Live())+" "+line(h.Check()), 3, 16, api.OK)
	for slides(t, h) {
	}
	fine(t, h.Arena().Close())
	tells(t, "Graph", line(h.Graph()), was)
	tells(t, "the room", line(room(h)), 16, 4, 9, 3)
}
