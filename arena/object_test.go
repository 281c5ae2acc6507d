package arena_test

import (
	"testing"

	"tidemark/api"
	"tidemark/arena"
	"tidemark/sample"
)

// nothing sees to it that no object begins at a place: all that are handed it refuse it, and change nothing.
func nothing(t *testing.T, a *arena.Arena, at int) {
	t.Helper()
	was := picture(a)
	tells(t, line("Head", at), one(a.Head(at)), arena.Head{}, api.ErrArg)
	tells(t, line("Next", at), one(a.Next(at)), 0, api.ErrArg)
	tells(t, line("Mark on", at), line(a.Mark(at, true)), api.ErrArg)
	tells(t, line("Mark off", at), line(a.Mark(at, false)), api.ErrArg)
	for _, i := range sample.Numbers(at, -at) {
		tells(t, line("Get", at, i), one(a.Get(at, i)), 0, api.ErrArg)
		tells(t, line("Put", at, i), line(a.Put(at, i, 77)), api.ErrArg)
	}
	if picture(a) != was {
		t.Errorf("what was refused at %d changed the arena", at)
	}
}

// P7.2: places at which no object begins: below 0, within objects, at the top, beyond it.
func TestNoObject(t *testing.T) {
	a := laid(t, 100, 2, 0, 70, 1)
	begins := map[int]int{0: 1, 3: 1, 4: 1, 75: 1}
	for _, at := range sample.Numbers(64, 128, 1048576, 77, 100) {
		if begins[at] == 0 {
			nothing(t, a, at)
		}
	}
	for at := range 140 {
		if begins[at] == 0 {
			nothing(t, a, at)
		} else if h, e := a.Head(at); e != api.OK || h.Tag == 0 {
			t.Errorf("Head(%d): %v, %d", at, h, int(e))
		}
	}
	for _, at := range sample.Numbers() {
		nothing(t, made(t, 5), at)
	}
}

// P7.2: words that look like heads are none, and no object begins at them.
func TestNoObjectInWords(t *testing.T) {
	a := laid(t, 40, 10, 10)
	for _, w := range []uint64{1, 0x101, 0x201, 1<<64 - 1, 1 << 8} {
		for i := range 10 {
			a.Put(0, i, w)
			a.Put(11, i, w)
		}
		for at := 1; at < 11; at++ {
			nothing(t, a, at)
			nothing(t, a, 11+at)
		}
		tells(t, "Next(0)", one(a.Next(0)), 11, api.OK)
		tells(t, "Next(11)", one(a.Next(11)), 22, api.OK)
	}
}

// P7.2: places in the gap, where objects began and where they did not.
func TestNoObjectInGap(t *testing.T) {
	a := laid(t, 30, 2, 3, 1, 2)
	a.Open()
	a.Skip()
	for _, at := range []int{0, 1, 2} {
		nothing(t, a, at)
	}
	a.Keep()
	for _, at := range []int{1, 2, 3, 4, 5, 6} {
		nothing(t, a, at)
	}
	a.Skip()
	for _, at := range []int{3, 4, 6, 7, 8, 12, 13} {
		nothing(t, a, at)
	}
	tells(t, "Head(0)", one(a.Head(0)), arena.Head{Tag: 2, Refs: 1, Size: 3, Owner: 10}, api.OK)
	tells(t, "Head(9)", one(a.Head(9)), arena.Head{Tag: 4, Refs: 1, Size: 2, Owner: 30}, api.OK)
	a.Keep()
	a.Close()
	for _, at := range []int{1, 3, 5, 7, 9, 10} {
		nothing(t, a, at)
	}
	tells(t, "Head(4)", one(a.Head(4)), arena.Head{Tag: 4, Refs: 1, Size: 2, Owner: 30}, api.OK)
}

// P7.2: places of objects that are gone, in an arena of many, where one greater object lies now.
func TestNoObjectAnyMore(t *testing.T) {
	a := made(t, 400)
	for a.Free() > 0 {
		a.Alloc(1, 0, 0, 0)
	}
	a.Open()
	for at := range 400 {
		tells(t, "Skip", one(a.Skip()), at, api.OK)
		tells(t, line("Head", at), one(a.Head(at)), arena.Head{}, api.ErrArg)
	}
	a.Close()
	a.Alloc(2, 0, 399, 0)
	for at := 1; at < 400; at++ {
		tells(t, line("Head", at), one(a.Head(at)), arena.Head{}, api.ErrArg)
	}
	nothing(t, a, 64)
}

// P7.2: a mark is put on and off, as often as one likes, and nothing else changes.
func TestMark(t *testing.T) {
	for _, h := range []arena.Head{
		{Tag: 1}, {Tag: 255}, {Tag: 1, Refs: 4096, Size: 4096, Owner: 1048575}, {Tag: 255, Refs: 4096, Size: 4096, Owner: 1048575},
		{Tag: 9, Refs: 3, Size: 5, Owner: 77},
	} {
		a := laid(t, 5000, 1, 2)
		at, _ := a.Alloc(h.Tag, h.Refs, h.Size, h.Owner)
		a.Alloc(6, 0, 1, 0)
		was := picture(a)
		for _, on := range []bool{true, true, false, false, true, false} {
			tells(t, line("Mark", on), line(a.Mark(at, on)), api.OK)
			h.Mark = on
			tells(t, "Head", one(a.Head(at)), h, api.OK)
			for i := range h.Size {
				if w, _ := a.Get(at, i); w != 0 {
					t.Fatalf("Mark changed word %d", i)
				}
			}
			if tag, _ := a.Head(0); tag.Mark {
				t.Errorf("another one is marked")
			}
			if tag, _ := a.Head(a.Top() - 2); tag.Mark {
				t.Errorf("the next one is marked")
			}
		}
		if picture(a) != was {
			t.Errorf("Mark on and off changed the arena")
		}
	}
}

// P7.2: words of an object, from 0 to size - 1, and none beside them.
func TestGetPut(t *testing.T) {
	a := laid(t, 20, 2, 3, 0, 1)
	for _, c := range []struct{ at, size int }{{0, 2}, {3, 3}, {7, 0}, {8, 1}} {
		for _, i := range sample.Numbers(c.size, 1, 2, 3) {
			if 0 <= i && i < c.size {
				tells(t, line("Put", c.at, i), line(a.Put(c.at, i, 1<<63+uint64(i))), api.OK)
				tells(t, line("Get", c.at, i), one(a.Get(c.at, i)), 1<<63+uint64(i), api.OK)
				continue
			}
			was := picture(a)
			tells(t, line("Put", c.at, i), line(a.Put(c.at, i, 5)), api.ErrArg)
			tells(t, line("Get", c.at, i), one(a.Get(c.at, i)), 0, api.ErrArg)
			if picture(a) != was {
				t.Errorf("Put(%d, %d) changed the arena", c.at, i)
			}
		}
	}
	for _, w := range []uint64{0, 1, 1 << 32, 1<<63 - 1, 1 << 63, 1<<64 - 1} {
		tells(t, line("Put", w), line(a.Put(3, 2, w)), api.OK)
		tells(t, line("Get", w), one(a.Get(3, 2)), w, api.OK)
	}
}

// way is the places that First and Next tell, the top at the end.
func way(t *testing.T, a *arena.Arena) string {
	t.Helper()
	at, s := a.First(), ""
	for range 50 {
		s += line(at) + " "
		next, e := a.Next(at)
		if e != api.OK {
			return s + line(e)
		}
		at = next
	}
	t.Fatalf("no end: %s", s)
	return ""
}

// P7.2: the first object and the next ones, across the gap too, to the top.
func TestFirstNext(t *testing.T) {
	a := made(t, 30)
	tells(t, "an empty arena", way(t, a), "0 1")
	a.Open()
	tells(t, "an empty arena, the gap open", way(t, a), "0 1")
	a = laid(t, 30, 0)
	tells(t, "one object", way(t, a), "0 1 1")
	a = laid(t, 30, 2, 0, 3, 1, 5)
	tells(t, "objects", way(t, a), "0 3 4 8 10 16 1")
	a.Open()
	tells(t, "the gap open", way(t, a), "0 3 4 8 10 16 1")
	a.Skip()
	tells(t, "first one skipped", way(t, a), "3 4 8 10 16 1")
	a.Skip()
	tells(t, "first two skipped", way(t, a), "4 8 10 16 1")
	a.Keep()
	tells(t, "one kept", way(t, a), "0 8 10 16 1")
	a.Skip()
	tells(t, "one more skipped", way(t, a), "0 10 16 1")
	a.Keep()
	tells(t, "the gap at the top", way(t, a), "0 4 16 1")
	a.Alloc(1, 0, 2, 0)
	tells(t, "a new one behind the gap", way(t, a), "0 4 16 19 1")
	a.Skip()
	tells(t, "the new one skipped", way(t, a), "0 4 19 1")
	a.Close()
	tells(t, "the gap closed", way(t, a), "0 4 10 1")
	a.Open()
	a.Skip()
	a.Skip()
	tells(t, "all of them skipped", way(t, a), "10 1")
	a.Close()
	tells(t, "none left", way(t, a), "0 1")
	a = laid(t, 30, 1, 1, 1)
	a.Open()
	a.Keep()
	a.Keep()
	tells(t, "kept where they were", way(t, a), "0 2 4 6 1")
}
