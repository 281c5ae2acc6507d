package arena_test

import (
	"slices"
	"testing"

	"tidemark/api"
	"tidemark/arena"
)

// refuses sees to it that the calls of the gap that are handed on by name answer that, and change nothing.
func refuses(t *testing.T, a *arena.Arena, e api.Errno, names ...string) {
	t.Helper()
	was := picture(a)
	for _, name := range names {
		got, want := "", line(e)
		switch name {
		case "Open":
			got = line(a.Open())
		case "Close":
			got = line(a.Close())
		case "Keep":
			got, want = two(a.Keep()), line(0, 0, e)
		case "Skip":
			got, want = one(a.Skip()), line(0, e)
		}
		tells(t, name, got, want)
	}
	if picture(a) != was {
		t.Errorf("%v, refused, changed the arena", names)
	}
}

// P7.3: what may be called while the gap is closed, while it is open, and at its end.
func TestGapStates(t *testing.T) {
	for _, a := range []*arena.Arena{made(t, 9), laid(t, 9, 0), laid(t, 9, 2, 3, 0), laid(t, 9, 8)} {
		for range 2 {
			top, objects := a.Top(), 0
			refuses(t, a, api.ErrState, "Keep", "Skip", "Close", "Keep", "Close")
			tells(t, "Gap", gap(a.Gap()), 0, 0, false)
			tells(t, "Open", line(a.Open()), api.OK)
			tells(t, "Gap", gap(a.Gap()), 0, 0, true)
			for at := a.First(); at < top; at, _ = a.Next(at) {
				objects++
			}
			for range objects {
				refuses(t, a, api.ErrState, "Open")
				refuses(t, a, api.ErrBusy, "Close")
				_, to, e := a.Keep()
				tells(t, "Keep", line(e), api.OK)
				end, _ := a.Next(to)
				tells(t, "Gap", gap(a.Gap()), end, end, true)
			}
			refuses(t, a, api.ErrEnd, "Keep", "Skip", "Keep")
			refuses(t, a, api.ErrState, "Open")
			tells(t, "Close", line(a.Close()), api.OK)
			tells(t, "Top", line(a.Top()), top)
			tells(t, "Gap", gap(a.Gap()), 0, 0, false)
		}
	}
}

// P7.3: objects that are kept where nothing was skipped yet stay where they are.
func TestKeepInPlace(t *testing.T) {
	a := laid(t, 30, 2, 0, 5, 1)
	was := picture(a)
	a.Open()
	for _, c := range []struct{ at, end int }{{0, 3}, {3, 4}, {4, 10}, {10, 12}} {
		tells(t, "Keep", two(a.Keep()), c.at, c.at, api.OK)
		tells(t, "Gap", gap(a.Gap()), c.end, c.end, true)
	}
	a.Close()
	if picture(a) != was {
		t.Errorf("the arena was changed")
	}
}

// P7.3: an object of every size is moved by every distance, so that its old and its new place overlap or do not.
func TestKeepMoves(t *testing.T) {
	for skipped := range 12 {
		for size := range 14 {
			a := laid(t, 40, skipped, size, 3)
			was := skipped + 1
			a.Mark(was, true)
			a.Open()
			tells(t, "Skip", one(a.Skip()), 0, api.OK)
			tells(t, "Gap", gap(a.Gap()), 0, was, true)
			tells(t, "Keep", two(a.Keep()), was, 0, api.OK)
			tells(t, "Gap", gap(a.Gap()), size+1, was+size+1, true)
			tells(t, "Head", one(a.Head(0)), arena.Head{Tag: 2, Refs: size / 2, Size: size, Mark: true, Owner: 10}, api.OK)
			for i := range size {
				tells(t, line("Get", 0, i), one(a.Get(0, i)), 200+i, api.OK)
			}
			tells(t, "Keep", two(a.Keep()), was+size+1, size+1, api.OK)
			for i := range 3 {
				tells(t, line("Get", size+1, i), one(a.Get(size+1, i)), 300+i, api.OK)
			}
			tells(t, "Close", line(a.Close()), api.OK)
			tells(t, "Top", line(a.Top()), size+5)
		}
	}
}

// P7.3: an object that is skipped is gone, the others stay as they are.
func TestSkip(t *testing.T) {
	a := laid(t, 30, 2, 0, 5)
	a.Open()
	tells(t, "Keep", two(a.Keep()), 0, 0, api.OK)
	tells(t, "Skip", one(a.Skip()), 3, api.OK)
	tells(t, "Gap", gap(a.Gap()), 3, 4, true)
	tells(t, "Skip", one(a.Skip()), 4, api.OK)
	tells(t, "Gap", gap(a.Gap()), 3, 10, true)
	tells(t, "the arena", bounds(a), 30, 10, 20)
	tells(t, "Get(0, 1)", one(a.Get(0, 1)), 101, api.OK)
	refuses(t, a, api.ErrEnd, "Skip", "Keep")
	tells(t, "Close", line(a.Close()), api.OK)
	tells(t, "the arena", bounds(a), 30, 3, 27)
}

// P7.3: objects that come while the gap is open are behind it: Close waits for them too.
func TestAllocBetween(t *testing.T) {
	a := laid(t, 30, 3, 2)
	a.Open()
	a.Skip()
	a.Keep()
	tells(t, "Gap", gap(a.Gap()), 3, 7, true)
	refuses(t, a, api.ErrEnd, "Keep", "Skip")
	tells(t, "Alloc", one(a.Alloc(8, 1, 4, 80)), 7, api.OK)
	for i := range 4 {
		a.Put(7, i, uint64(800+i))
	}
	refuses(t, a, api.ErrBusy, "Close")
	tells(t, "Alloc", one(a.Alloc(9, 0, 1, 90)), 12, api.OK)
	tells(t, "Keep", two(a.Keep()), 7, 3, api.OK)
	tells(t, "Gap", gap(a.Gap()), 8, 12, true)
	refuses(t, a, api.ErrBusy, "Close")
	tells(t, "Skip", one(a.Skip()), 12, api.OK)
	tells(t, "Close", line(a.Close()), api.OK)
	tells(t, "Top", line(a.Top()), 8)
	tells(t, "Head(3)", one(a.Head(3)), arena.Head{Tag: 8, Refs: 1, Size: 4, Owner: 80}, api.OK)
	for i := range 4 {
		tells(t, line("Get", 3, i), one(a.Get(3, i)), 800+i, api.OK)
	}
	tells(t, "Alloc", one(a.Alloc(1, 0, 9, 0)), 8, api.OK)
	zero(t, a, 8)
}

// P7.3, P7.4: objects are marked, asked and changed on both sides of the gap.
func TestBothSides(t *testing.T) {
	a := laid(t, 30, 3, 2, 4)
	a.Open()
	a.Skip()
	a.Keep()
	for _, at := range []int{0, 7} {
		tells(t, line("Mark", at), line(a.Mark(at, true)), api.OK)
		tells(t, line("Put", at), line(a.Put(at, 1, 9)), api.OK)
		tells(t, line("Get", at), one(a.Get(at, 1)), 9, api.OK)
	}
	a.Keep()
	a.Close()
	tells(t, "Head(3)", one(a.Head(3)), arena.Head{Tag: 3, Refs: 2, Size: 4, Mark: true, Owner: 20}, api.OK)
	var words []uint64
	for i := range 4 {
		w, _ := a.Get(3, i)
		words = append(words, w)
	}
	if !slices.Equal(words, []uint64{300, 9, 302, 303}) {
		t.Errorf("the words: %d", words)
	}
}
