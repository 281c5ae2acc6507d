package arena_test

import (
	"testing"

	"tidemark/api"
	"tidemark/arena"
	"tidemark/sample"
)

// The examples of chapter 7.
func TestExamples(t *testing.T) {
	a := made(t, 10)
	tells(t, "Alloc(1, 1, 2, 5)", one(a.Alloc(1, 1, 2, 5)), 0, api.OK)
	tells(t, "Alloc(2, 0, 3, 6)", one(a.Alloc(2, 0, 3, 6)), 3, api.OK)
	tells(t, "Alloc(3, 0, 3, 7)", one(a.Alloc(3, 0, 3, 7)), 0, api.ErrFull)
	tells(t, "Top", line(a.Top()), 7)

	tells(t, "Put(3, 1, 9)", line(a.Put(3, 1, 9)), api.OK)
	tells(t, "Open", line(a.Open()), api.OK)
	tells(t, "Skip", one(a.Skip()), 0, api.OK)
	tells(t, "Keep", two(a.Keep()), 3, 0, api.OK)
	tells(t, "Close", line(a.Close()), api.OK)
	tells(t, "Top", line(a.Top()), 4)
	tells(t, "Get(0, 1)", one(a.Get(0, 1)), 9, api.OK)

	tells(t, "Keep", two(a.Keep()), 0, 0, api.ErrState)
	tells(t, "Head(1)", one(a.Head(1)), arena.Head{}, api.ErrArg)
	tells(t, "Next(0)", one(a.Next(0)), 4, api.OK)
	b, e := arena.New(0)
	tells(t, "New(0)", line(b == nil, e), true, api.ErrArg)
}

// P7.1: New refuses what is not from 1 to MaxWords.
func TestNew(t *testing.T) {
	for _, n := range sample.Numbers(1, api.MaxWords) {
		a, e := arena.New(n)
		if n < 1 || n > 1048576 {
			tells(t, line("New", n), line(a == nil, e), true, api.ErrArg)
			continue
		}
		tells(t, line("New", n), line(a != nil, e), true, api.OK)
		tells(t, line("the arena of", n), bounds(a), n, 0, n)
		tells(t, "Gap", gap(a.Gap()), 0, 0, false)
		tells(t, "First", line(a.First()), 0)
	}
}

// asked is what Alloc is handed.
type asked struct{ tag, refs, size, owner int }

func (c asked) of(a *arena.Arena) string { return one(a.Alloc(c.tag, c.refs, c.size, c.owner)) }

// P7.1: an object's tag, references, size and owner, at both ends of each.
func TestAllocTakes(t *testing.T) {
	for _, c := range []asked{
		{1, 0, 0, 0}, {255, 0, 0, 0}, {1, 0, 4096, 0}, {1, 4096, 4096, 0}, {1, 1, 1, 0}, {1, 0, 1, 0}, {7, 3, 5, 9},
		{1, 0, 0, 1048575}, {255, 4096, 4096, 1048575}, {128, 4095, 4096, 524288}, {2, 2048, 2049, 1},
	} {
		for _, words := range []int{5000, c.size + 1} {
			a, call := made(t, words), line("Alloc", c)
			tells(t, call, c.of(a), 0, api.OK)
			tells(t, call+", its head", one(a.Head(0)), arena.Head{Tag: c.tag, Refs: c.refs, Size: c.size, Owner: c.owner}, api.OK)
			tells(t, call+", the arena", bounds(a), words, c.size+1, words-c.size-1)
		}
	}
}

// P7.1: an object's tag, references, size and owner beyond their ends: ErrArg, also where there is no room.
func TestAllocRefuses(t *testing.T) {
	refused := []asked{{1, 0, 4097, 0}, {1, 4097, 4096, 0}, {1, 2, 1, 0}, {1, 1, 0, 0}}
	for _, n := range sample.Numbers(-256, -255) {
		refused = append(refused, asked{min(n, 0), 0, 1, 0}, asked{max(256, n), 0, 1, 0}, asked{n, n, n, -1},
			asked{1, 0, min(-1, n), 0}, asked{1, 0, max(4097, n), 0}, asked{1, min(-1, n), 1, 0}, asked{1, max(2, n), 1, 0},
			asked{1, 0, 1, min(-1, n)}, asked{1, 0, 1, max(1048576, n)})
	}
	for _, words := range []int{1, 10000} {
		a := made(t, words)
		for _, c := range refused {
			tells(t, line("Alloc", c), c.of(a), 0, api.ErrArg)
		}
		tells(t, "the arena", bounds(a), words, 0, words)
	}
}

// P7.1: an object needs its size and one word more.
func TestAllocFull(t *testing.T) {
	for _, size := range []int{0, 1, 2, 63, 64, 4096} {
		a := made(t, size+3)
		tells(t, "Alloc of all but two words", one(a.Alloc(1, 0, max(0, size-1), 0)), 0, api.OK)
		tells(t, "Alloc of more", one(a.Alloc(1, 0, min(4096, a.Free()), 0)), 0, api.ErrFull)
		tells(t, "Alloc of much more", one(a.Alloc(1, 0, 4096, 0)), 0, api.ErrFull)
		free := a.Free()
		tells(t, "Alloc of the rest", one(a.Alloc(1, 0, free-1, 0)), size+3-free, api.OK)
		tells(t, "the arena", bounds(a), size+3, size+3, 0)
		tells(t, "Alloc in a full one", one(a.Alloc(1, 0, 0, 0)), 0, api.ErrFull)
		tells(t, "the arena", bounds(a), size+3, size+3, 0)
	}
	a := made(t, 1048576)
	for range 255 {
		a.Alloc(1, 0, 4096, 0)
	}
	tells(t, "the arena", bounds(a), 1048576, 255*4097, 3841)
	tells(t, "Alloc(1, 0, 3841, 0)", one(a.Alloc(1, 0, 3841, 0)), 0, api.ErrFull)
	tells(t, "Alloc(1, 0, 3840, 0)", one(a.Alloc(1, 0, 3840, 0)), 255*4097, api.OK)
	tells(t, "Put", line(a.Put(255*4097, 3839, 1)), api.OK)
	tells(t, "the arena", bounds(a), 1048576, 1048576, 0)
}

// zero sees to it that the words of the object at a place are 0.
func zero(t *testing.T, a *arena.Arena, at int) {
	t.Helper()
	h, e := a.Head(at)
	if e != api.OK {
		t.Fatalf("no object at %d", at)
	}
	for i := range h.Size {
		tells(t, line("Get", at, i), one(a.Get(at, i)), 0, api.OK)
	}
}

// P7.1: a new object is not marked and its words are 0, whatever lay there before.
func TestAllocIsZero(t *testing.T) {
	for _, kept := range []int{0, 1, 2} {
		a := laid(t, 20, 4, 6, 3, 2)
		for at := a.First(); at < a.Top(); at, _ = a.Next(at) {
			a.Mark(at, true)
			h, _ := a.Head(at)
			for i := range h.Size {
				a.Put(at, i, 1<<64-1)
			}
		}
		a.Open()
		a.Skip()
		for range kept {
			a.Keep()
		}
		for e := api.OK; e == api.OK; {
			_, e = a.Skip()
		}
		a.Close()
		at := a.Top()
		tells(t, "Alloc where others lay", one(a.Alloc(9, 2, 19-at, 8)), at, api.OK)
		tells(t, "its head", one(a.Head(at)), arena.Head{Tag: 9, Refs: 2, Size: 19 - at, Owner: 8}, api.OK)
		zero(t, a, at)
		tells(t, "the arena", bounds(a), 20, 20, 0)
	}
}

// P7.1: with the gap open, new objects stand at the top as well; the gap's words are not free.
func TestAllocWithGap(t *testing.T) {
	a := laid(t, 16, 4, 2, 3)
	a.Open()
	a.Skip()
	tells(t, "the arena", bounds(a), 16, 12, 4)
	tells(t, "Alloc of more than is free", one(a.Alloc(1, 0, 4, 0)), 0, api.ErrFull)
	tells(t, "Alloc", one(a.Alloc(7, 1, 1, 3)), 12, api.OK)
	tells(t, "its head", one(a.Head(12)), arena.Head{Tag: 7, Refs: 1, Size: 1, Owner: 3}, api.OK)
	a.Keep()
	tells(t, "the arena", bounds(a), 16, 14, 2)
	tells(t, "Gap", gap(a.Gap()), 3, 8, true)
	tells(t, "Alloc", one(a.Alloc(8, 0, 1, 0)), 14, api.OK)
	tells(t, "the arena", bounds(a), 16, 16, 0)
	tells(t, "Alloc", one(a.Alloc(8, 0, 0, 0)), 0, api.ErrFull)
	tells(t, "Gap", gap(a.Gap()), 3, 8, true)
}
