package handle_test

import (
	"math"
	"testing"

	"tidemark/api"
	"tidemark/handle"
	"tidemark/sample"
)

// The examples of chapter 8.
func TestExamples(t *testing.T) {
	x := made(t, 2)
	tells(t, "Make(7)", one(x.Make(7)), 4294967297, api.OK)
	tells(t, "Make(8)", one(x.Make(8)), 4294967298, api.OK)
	tells(t, "Make(9)", one(x.Make(9)), 0, api.ErrFull)

	tells(t, "Free(4294967297)", line(x.Free(4294967297)), api.OK)
	tells(t, "At(4294967297)", one(x.At(4294967297)), 0, api.ErrStale)
	tells(t, "Make(5)", one(x.Make(5)), 8589934593, api.OK)
	tells(t, "Count", line(x.Count()), 2)
}

// P8.1: New refuses what is not from 1 to MaxHandles; all slots of a new table are free.
func TestNew(t *testing.T) {
	for _, n := range sample.Numbers(1, 2, 1048576) {
		x, e := handle.New(n)
		if n < 1 || n > 1048576 {
			tells(t, line("New", n), line(x == nil, e), true, api.ErrArg)
			continue
		}
		tells(t, line("New", n), line(x != nil, e), true, api.OK)
		tells(t, line("the table of", n), line(x.Slots(), x.Count(), len(x.Live())), n, 0, 0)
		for _, slot := range []int{0, n / 2, n - 1} {
			tells(t, line("Of", slot), one(x.Of(slot)), 0, api.ErrStale)
		}
	}
}

// P8.1: the number of a handle is 0 or above, up to the greatest; below 0 is refused, also where no slot is free.
func TestMakeNumbers(t *testing.T) {
	x := made(t, 3)
	below := func() {
		t.Helper()
		was := picture(x, nil)
		for _, at := range []int{-1, -2, -1 << 31, -1 << 32, math.MinInt} {
			tells(t, line("Make", at), one(x.Make(at)), 0, api.ErrArg)
		}
		if picture(x, nil) != was {
			t.Errorf("Make, refused, changed the table")
		}
	}
	for slot, at := range []int{0, math.MaxInt, 1 << 40} {
		below()
		tells(t, line("Make", at), one(x.Make(at)), named(slot, 1), api.OK)
		tells(t, "At", one(x.At(named(slot, 1))), at, api.OK)
	}
	below()
	tells(t, "Make(0) in a full table", one(x.Make(0)), 0, api.ErrFull)
	tells(t, "Free", line(x.Free(named(1, 1))), api.OK)
	below()
	tells(t, "Make(0)", one(x.Make(0)), named(1, 2), api.OK)
	tells(t, "At", one(x.At(named(1, 2))), 0, api.OK)
}

// P8.1: Slots stays; Count is how many slots are taken.
func TestCount(t *testing.T) {
	x, all := filled(t, 5)
	for k, h := range all {
		tells(t, "Slots, Count", line(x.Slots(), x.Count()), 5, 5-k)
		x.Free(h)
		x.Free(h)
		tells(t, "Slots, Count", line(x.Slots(), x.Count()), 5, 4-k)
	}
	for k := range 7 {
		x.Make(-1)
		x.Make(1)
		tells(t, "Slots, Count", line(x.Slots(), x.Count()), 5, min(5, k+1))
	}
}

// P8.1: a table can be filled to its last slot; one more is refused and changes nothing, at the first filling and later.
func TestMakeFull(t *testing.T) {
	for _, slots := range []int{1, 2, 3, 63, 64, 65, 128, 1000} {
		x, all := filled(t, slots)
		for round := 1; round < 4; round++ {
			was := picture(x, all)
			for _, at := range []int{0, 1, math.MaxInt} {
				tells(t, "Make in a full table", one(x.Make(at)), 0, api.ErrFull)
			}
			tells(t, "Slots, Count", line(x.Slots(), x.Count()), slots, slots)
			if picture(x, all) != was {
				t.Fatalf("Make, refused, changed the table of %d", slots)
			}
			for k, h := range all {
				tells(t, "the handle", line(h), named(k, round))
				tells(t, "Free", line(x.Free(h)), api.OK)
			}
			for k := slots - 1; k >= 0; k-- {
				all[k], _ = x.Make(k)
			}
		}
	}
}

// P8.1: a table of as many slots as there may be.
func TestMakeAll(t *testing.T) {
	const slots = 1048576
	x, all := filled(t, slots)
	tells(t, "Make in a full table", one(x.Make(1)), 0, api.ErrFull)
	for k, h := range all {
		at, e := x.At(h)
		slot, f := x.Slot(h)
		of, g := x.Of(k)
		if h != named(k, 1) || at != 100+k || slot != k || of != h || e != api.OK || f != api.OK || g != api.OK {
			t.Fatalf("slot %d: handle %d, At %d %d, Slot %d %d, Of %d %d", k, h, at, int(e), slot, int(f), of, int(g))
		}
	}
	live := x.Live()
	for k, h := range live {
		if h != named(k, 1) {
			t.Fatalf("Live: handle %d is %d", k, h)
		}
	}
	tells(t, "Live, Slots, Count", line(len(live), x.Slots(), x.Count()), slots, slots, slots)
	tells(t, "Of the last slot and 1", one(x.Of(slots)), 0, api.ErrArg)
	stale(t, made(t, 2), all[2:5]...)
	for _, h := range all {
		x.Free(h)
	}
	tells(t, "Live, Slots, Count", line(len(x.Live()), x.Slots(), x.Count()), 0, slots, 0)
	tells(t, "Make", one(x.Make(1)), named(slots-1, 2), api.OK)
}

// P8.1: Make takes the slot that was freed last, then the one that was freed ahead of it, and only then the lowest
// that was never taken.
func TestMakeOrder(t *testing.T) {
	x := made(t, 9)
	for slot := range 6 {
		tells(t, "Make", one(x.Make(slot)), named(slot, 1), api.OK)
	}
	takes := func(slot, generation int) {
		t.Helper()
		tells(t, "Make", one(x.Make(7)), named(slot, generation), api.OK)
	}
	frees := func(slots ...int) {
		t.Helper()
		for _, slot := range slots {
			h, _ := x.Of(slot)
			tells(t, line("Free of slot", slot), line(x.Free(h)), api.OK)
		}
	}
	frees(2, 5, 0)
	takes(0, 2)
	takes(5, 2)
	takes(2, 2)
	takes(6, 1)
	frees(6, 3, 1, 4)
	takes(4, 2)
	takes(1, 2)
	frees(0, 4)
	takes(4, 3)
	takes(0, 3)
	takes(3, 2)
	takes(6, 2)
	takes(7, 1)
	frees(3)
	takes(3, 3)
	takes(8, 1)
	tells(t, "Make in a full table", one(x.Make(0)), 0, api.ErrFull)
	frees(0, 1, 2, 3, 4, 5, 6, 7, 8)
	for k, generation := range []int{2, 2, 3, 3, 4, 4, 3, 3, 4} {
		takes(8-k, generation)
	}
}

// P8.1: what is refused does not change which slot is taken next.
func TestMakeOrderRefused(t *testing.T) {
	x, all := filled(t, 4)
	x.Free(all[1])
	x.Free(all[3])
	for range 3 {
		x.Free(all[1])
		x.Make(-1)
		x.Move(all[1], 3)
		x.Move(all[0], -3)
		x.Of(1)
		x.Free(0)
		x.Free(named(1, 2))
		x.Free(named(4, 1))
	}
	tells(t, "Make", one(x.Make(5)), named(3, 2), api.OK)
	x.Free(all[3])
	tells(t, "Make", one(x.Make(5)), named(1, 2), api.OK)
	tells(t, "Make", one(x.Make(5)), 0, api.ErrFull)
}
