package handle_test

import (
	"math"
	"testing"

	"tidemark/api"
	"tidemark/handle"
	"tidemark/sample"
)

// holds sees to it that a handle is live, with that slot and that number.
func holds(t *testing.T, x *handle.Table, h uint64, slot, at int) {
	t.Helper()
	tells(t, line("At", h), one(x.At(h)), at, api.OK)
	tells(t, line("Slot", h), one(x.Slot(h)), slot, api.OK)
	tells(t, line("Of", slot), one(x.Of(slot)), h, api.OK)
}

// P8.2: handles that are live tell their numbers and their slots.
func TestLiveHandles(t *testing.T) {
	x, all := filled(t, 130)
	for slot, h := range all {
		tells(t, "the handle", line(h), named(slot, 1))
		holds(t, x, h, slot, 100+slot)
	}
	for slot, h := range all {
		if slot%3 == 0 {
			x.Free(h)
			all[slot], _ = x.Make(1000 + slot)
		}
	}
	for slot, h := range all {
		if slot%3 == 0 {
			holds(t, x, h, slot, 1000+slot)
			stale(t, x, named(slot, 1))
		} else {
			holds(t, x, h, slot, 100+slot)
		}
	}
}

// P8.2: handles that were freed, of slots never taken, of slots beyond the table, of other generations, 0 and the
// greatest number stand for nothing.
func TestStaleHandles(t *testing.T) {
	x := made(t, 8)
	stale(t, x, odd(8)...)
	stale(t, x, named(0, 1), named(7, 1))
	for k := range 5 {
		x.Make(k)
	}
	stale(t, x, odd(8)...)
	stale(t, x, named(5, 1), named(6, 1), named(7, 1), named(8, 1))
	for slot := range 5 {
		stale(t, x, named(slot, 2), named(slot, 3))
	}
	for _, slot := range []int{1, 3} {
		tells(t, "Free", line(x.Free(named(slot, 1))), api.OK)
		stale(t, x, named(slot, 1), named(slot, 2), named(slot, 3))
		tells(t, line("Of", slot), one(x.Of(slot)), 0, api.ErrStale)
	}
	x.Make(9)
	stale(t, x, named(3, 1), named(3, 3), named(1, 1), named(1, 2))
	holds(t, x, named(3, 2), 3, 9)
	stale(t, x, odd(8)...)
	for _, slot := range []int{0, 2, 4} {
		holds(t, x, named(slot, 1), slot, slot)
	}
}

// P8.2: Move of a live handle: to each number from 0 on; below 0 is refused, and its number stays.
func TestMove(t *testing.T) {
	x, all := filled(t, 3)
	for _, at := range []int{5, 0, math.MaxInt, 1 << 32, 1} {
		tells(t, line("Move", at), line(x.Move(all[1], at)), api.OK)
		holds(t, x, all[1], 1, at)
		for _, below := range []int{-1, math.MinInt, -1 << 31, -1 << 32} {
			tells(t, line("Move", below), line(x.Move(all[1], below)), api.ErrArg)
			holds(t, x, all[1], 1, at)
		}
		holds(t, x, all[0], 0, 100)
		holds(t, x, all[2], 2, 102)
	}
	tells(t, "Count, Live", line(x.Count(), x.Live()), 3, all)
	x.Free(all[1])
	stale(t, x, all[1])
	x.Make(6)
	stale(t, x, all[1])
	holds(t, x, named(1, 2), 1, 6)
	tells(t, "Move to where another one is", line(x.Move(all[0], 6)), api.OK)
	holds(t, x, all[0], 0, 6)
	holds(t, x, named(1, 2), 1, 6)
}

// P8.2: Of a slot below 0, at the table's ends, beyond them, and of a free one.
func TestOf(t *testing.T) {
	for _, slots := range []int{1, 2, 64, 65} {
		x := made(t, slots)
		beyond := func() {
			t.Helper()
			for _, slot := range append(sample.Numbers(slots+1), -2, -slots, 2*slots) {
				if slot < 0 || slot >= slots {
					tells(t, line("Of", slot), one(x.Of(slot)), 0, api.ErrArg)
				}
			}
		}
		for slot := range slots {
			beyond()
			tells(t, line("Of", slot), one(x.Of(slot)), 0, api.ErrStale)
			tells(t, line("Of", slots-1), one(x.Of(slots-1)), 0, api.ErrStale)
			x.Make(1)
			tells(t, line("Of", slot), one(x.Of(slot)), named(slot, 1), api.OK)
		}
		beyond()
		x.Free(named(slots-1, 1))
		tells(t, line("Of", slots-1), one(x.Of(slots-1)), 0, api.ErrStale)
		x.Make(1)
		tells(t, line("Of", slots-1), one(x.Of(slots-1)), named(slots-1, 2), api.OK)
	}
}

// P8.2: Live of an empty table, of a full one, of one with free slots between, by rising slots, whatever order they
// were taken in.
func TestLive(t *testing.T) {
	x := made(t, 5)
	live := func(want ...uint64) {
		t.Helper()
		if want == nil {
			want = []uint64{}
		}
		tells(t, "Live", line(x.Live()), want)
		tells(t, "Count", line(x.Count()), len(want))
	}
	live()
	x.Make(9)
	live(named(0, 1))
	for k := range 4 {
		x.Make(k)
	}
	live(named(0, 1), named(1, 1), named(2, 1), named(3, 1), named(4, 1))
	x.Free(named(3, 1))
	live(named(0, 1), named(1, 1), named(2, 1), named(4, 1))
	x.Free(named(0, 1))
	x.Free(named(1, 1))
	live(named(2, 1), named(4, 1))
	x.Make(1)
	live(named(1, 2), named(2, 1), named(4, 1))
	x.Free(named(4, 1))
	x.Free(named(2, 1))
	x.Make(2)
	x.Make(3)
	x.Make(4)
	live(named(0, 2), named(1, 2), named(2, 2), named(4, 2))
	for slot := range 5 {
		x.Free(named(slot, 2))
	}
	live()
}
