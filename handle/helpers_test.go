package handle_test

import (
	"fmt"
	"math"
	"slices"
	"testing"

	"tidemark/api"
	"tidemark/handle"
)

// made is a table, all of its slots free.
func made(t *testing.T, slots int) *handle.Table {
	t.Helper()
	x, e := handle.New(slots)
	if e != api.OK || x == nil {
		t.Fatalf("New(%d): %v, %d", slots, x != nil, int(e))
	}
	return x
}

// filled is a table of which all slots are taken; slot k has the number 100 + k. Its handles are told with it.
func filled(t *testing.T, slots int) (*handle.Table, []uint64) {
	t.Helper()
	x := made(t, slots)
	var all []uint64
	for k := range slots {
		h, e := x.Make(100 + k)
		if e != api.OK {
			t.Fatalf("Make %d of %d: %d", k, slots, int(e))
		}
		all = append(all, h)
	}
	return x, all
}

// named is the handle of a slot with a generation, as the chapter has it.
func named(slot, generation int) uint64 {
	return uint64(generation)*4294967296 + uint64(slot) + 1
}

// tells sees to it that calls told these answers, shown as texts.
func tells(t *testing.T, call string, got string, want ...any) {
	t.Helper()
	if w := line(want...); got != w {
		t.Errorf("%s: %s, want %s", call, got, w)
	}
}

// line shows answers; an Errno as its number.
func line(answers ...any) string {
	s := ""
	for i, x := range answers {
		if e, ok := x.(api.Errno); ok {
			x = int(e)
		}
		if i > 0 {
			s += " "
		}
		s += fmt.Sprint(x)
	}
	return s
}

// one shows what a call answers beside its error.
func one[T any](x T, e api.Errno) string { return line(x, e) }

// odd are handles that no table of at most so many slots tells, while each was freed fewer than 1000 times: 0, the
// greatest number, slots beyond the table, generations that no slot has.
func odd(slots int) []uint64 {
	l := []uint64{0, 1<<32 - 1, 1 << 32, 2 << 32, 1<<63 + 1, 1<<64 - 1, 1<<64 - 1<<32}
	for slot := range slots {
		l = append(l, named(slot, 0), named(slot, 1001), named(slot, 1<<31), named(slot, 1<<32-1))
	}
	for _, slot := range []int{slots, slots + 1, 2 * slots, 1<<20 - 1, 1 << 20, 1 << 31, 1<<32 - 2} {
		l = append(l, named(max(slot, slots), 0), named(max(slot, slots), 1), named(max(slot, slots), 2))
	}
	return l
}

// picture shows all that a table tells, of every slot and some beside it, and of these handles.
func picture(x *handle.Table, of []uint64) string {
	s := fmt.Appendln(nil, x.Slots(), x.Count(), x.Live())
	for slot := -2; slot < x.Slots()+2; slot++ {
		h, e := x.Of(slot)
		s = fmt.Appendln(s, slot, h, int(e))
	}
	for _, h := range of {
		at, e := x.At(h)
		slot, f := x.Slot(h)
		s = fmt.Appendln(s, h, at, int(e), slot, int(f))
	}
	return string(s)
}

// stale sees to it that handles stand for nothing: each call refuses them, beside zero values, and changes nothing.
func stale(t *testing.T, x *handle.Table, handles ...uint64) {
	t.Helper()
	was := picture(x, handles)
	for _, h := range handles {
		tells(t, line("At", h), one(x.At(h)), 0, api.ErrStale)
		tells(t, line("Slot", h), one(x.Slot(h)), 0, api.ErrStale)
		tells(t, line("Free", h), line(x.Free(h)), api.ErrStale)
		for _, at := range []int{0, 7, math.MaxInt, -1, math.MinInt} {
			tells(t, line("Move", h, at), line(x.Move(h, at)), api.ErrStale)
		}
		if slices.Contains(x.Live(), h) {
			t.Errorf("Live tells %d, which stands for nothing", h)
		}
	}
	if picture(x, handles) != was {
		t.Errorf("what was refused changed the table:\n%s\nwas\n%s", picture(x, handles), was)
	}
}

// name is a handle by another hand: it knows its slot and the how-many-th of it, and is struck out when it is freed.
type name struct {
	slot, nth, at int
	out           bool
}

// other is a table by another hand: all the names that were ever made, and the slots that were freed, the last at the
// end. What a slot holds is not kept, but looked for among the names.
type other struct {
	slots int
	names []*name
	freed []int
}

// of is the name that is live in a slot, or nil; and how many names the slot has had.
func (o *other) of(slot int) (*name, int) {
	var live *name
	had := 0
	for _, n := range o.names {
		if n.slot != slot {
			continue
		}
		had++
		if !n.out {
			live = n
		}
	}
	return live, had
}

// find is the live name that has this handle, or nil.
func (o *other) find(h uint64) *name {
	for _, n := range o.names {
		if named(n.slot, n.nth) == h && !n.out {
			return n
		}
	}
	return nil
}

func (o *other) make(at int) string {
	if at < 0 {
		return line(0, api.ErrArg)
	}
	slot := 0
	if k := len(o.freed); k > 0 {
		slot, o.freed = o.freed[k-1], o.freed[:k-1]
	} else {
		for _, had := o.of(slot); had > 0; _, had = o.of(slot) {
			slot++
		}
	}
	if slot >= o.slots {
		return line(0, api.ErrFull)
	}
	_, had := o.of(slot)
	o.names = append(o.names, &name{slot: slot, nth: had + 1, at: at})
	return line(named(slot, had+1), api.OK)
}

func (o *other) move(h uint64, at int) string {
	n := o.find(h)
	if n == nil {
		return line(api.ErrStale)
	}
	if at < 0 {
		return line(api.ErrArg)
	}
	n.at = at
	return line(api.OK)
}

func (o *other) free(h uint64) string {
	n := o.find(h)
	if n == nil {
		return line(api.ErrStale)
	}
	n.out = true
	o.freed = append(o.freed, n.slot)
	return line(api.OK)
}

// handles are all that were ever made.
func (o *other) handles() []uint64 {
	var l []uint64
	for _, n := range o.names {
		l = append(l, named(n.slot, n.nth))
	}
	return l
}

// picture shows what the table should tell.
func (o *other) picture(of []uint64) string {
	var slots []byte
	live := []uint64{}
	for slot := -2; slot < o.slots+2; slot++ {
		n, _ := o.of(slot)
		switch {
		case slot < 0 || slot >= o.slots:
			slots = fmt.Appendln(slots, slot, 0, int(api.ErrArg))
		case n == nil:
			slots = fmt.Appendln(slots, slot, 0, int(api.ErrStale))
		default:
			live = append(live, named(slot, n.nth))
			slots = fmt.Appendln(slots, slot, named(slot, n.nth), 0)
		}
	}
	s := append(fmt.Appendln(nil, o.slots, len(live), live), slots...)
	for _, h := range of {
		if n := o.find(h); n != nil {
			s = fmt.Appendln(s, h, n.at, 0, n.slot, 0)
		} else {
			s = fmt.Appendln(s, h, 0, int(api.ErrStale), 0, int(api.ErrStale))
		}
	}
	return string(s)
}

// pair is a table and the other hand's, which are told the same.
type pair struct {
	table *handle.Table
	other *other
}
