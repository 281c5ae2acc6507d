package arena_test

import (
	"math/rand"
	"testing"

	"tidemark/api"
)

// P7.4: after Open, each object kept or skipped, and Close, those kept stand in their order from 0 on, as they were.
func TestKeptInOrder(t *testing.T) {
	sizes := []int{2, 0, 5, 1, 3, 0, 4}
	for choice := range 1 << len(sizes) {
		a := laid(t, 40, sizes...)
		a.Open()
		for k := range sizes {
			if choice>>k&1 == 1 {
				a.Keep()
			} else {
				a.Skip()
			}
		}
		tells(t, "Close", line(a.Close()), api.OK)
		at := 0
		for k, size := range sizes {
			if choice>>k&1 == 0 {
				continue
			}
			h, e := a.Head(at)
			tells(t, line("Head", at), line(h.Tag, h.Refs, h.Size, h.Mark, h.Owner, e), k+1, size/2, size, false, 10*k, api.OK)
			for i := range size {
				tells(t, line("Get", at, i), one(a.Get(at, i)), 100*(k+1)+i, api.OK)
			}
			tells(t, line("Next", at), one(a.Next(at)), at+1+size, api.OK)
			at += 1 + size
		}
		tells(t, "the arena", bounds(a), 40, at, 40-at)
	}
}

// step does one thing by chance to an arena and to the other hand's, and tells both answers.
func step(r *rand.Rand, a *pair, hurry int) (got, want string) {
	at := r.Intn(a.other.room+4) - 2
	switch n := r.Intn(20); {
	case n < 5:
		size := r.Intn(2 + r.Intn(9))
		tag, refs, owner := r.Intn(260)-1, r.Intn(size+2)-r.Intn(2), r.Intn(1050000)-700
		return one(a.arena.Alloc(tag, refs, size, owner)), a.other.alloc(tag, refs, size, owner)
	case n < 7:
		on := r.Intn(2) > 0
		return line(a.arena.Mark(at, on)), a.other.mark(at, on)
	case n < 14:
		i, w := r.Intn(7)-1, r.Uint64()>>r.Intn(64)
		return line(a.arena.Put(at, i, w)), a.other.put(at, i, w)
	case n < 15 && r.Intn(hurry) > 0:
		return line(a.arena.Close()), a.other.closes()
	case n < 16:
		return line(a.arena.Open()), a.other.opens()
	case n < 18:
		return one(a.arena.Skip()), a.other.skip()
	default:
		return two(a.arena.Keep()), a.other.keep()
	}
}

// P7.1, P7.2, P7.3, P7.4: things done by chance, held against another hand, with all that the arena tells.
func TestByChance(t *testing.T) {
	r := rand.New(rand.NewSource(7))
	closed := 0
	for run := range 150 {
		room := 1 + r.Intn(1+r.Intn(90))
		a := &pair{made(t, room), &other{room: room}}
		for range 120 {
			was := a.other.open
			got, want := step(r, a, 1+r.Intn(4))
			if got != want || picture(a.arena) != a.other.picture() {
				t.Fatalf("run %d: %s, want %s, and all it tells:\n%s\nwant\n%s", run, got, want, picture(a.arena), a.other.picture())
			}
			if was && !a.other.open {
				closed++
			}
		}
	}
	if closed < 100 {
		t.Errorf("the gap was closed %d times", closed)
	}
}
