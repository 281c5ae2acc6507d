package handle_test

import (
	"math/rand"
	"slices"
	"testing"

	"tidemark/api"
)

// P8.3: a handle that was freed is never live again and is told by no call again, however often its slot is taken; the
// other slots' handles stay as they are.
func TestFreedForGood(t *testing.T) {
	x, all := filled(t, 3)
	freed := []uint64{}
	h := all[1]
	for k := range 900 {
		tells(t, "the handle", line(h), named(1, k+1))
		tells(t, "Free", line(x.Free(h)), api.OK)
		tells(t, "Live", line(x.Live()), []uint64{all[0], all[2]})
		freed = append(freed, h)
		h, _ = x.Make(k)
		if slices.Contains(freed, h) {
			t.Fatalf("Make tells %d, which was freed", h)
		}
		holds(t, x, h, 1, k)
		holds(t, x, all[0], 0, 100)
		holds(t, x, all[2], 2, 102)
	}
	stale(t, x, freed...)
	stale(t, x, odd(3)...)
}

// P8.3: as often as a test has time for.
func TestFreedOften(t *testing.T) {
	x := made(t, 2)
	x.Make(7)
	const often = 1 << 17
	for k := range often {
		h, e := x.Make(k)
		if h != named(1, k+1) || e != api.OK {
			t.Fatalf("Make %d: %d %d", k, h, int(e))
		}
		x.Free(h)
	}
	x.Make(8)
	tells(t, "Live", line(x.Live()), []uint64{named(0, 1), named(1, often+1)})
	for k := range often {
		if at, e := x.At(named(1, k+1)); at != 0 || e != api.ErrStale {
			t.Fatalf("At of the handle freed %d ago: %d %d", often-k, at, int(e))
		}
	}
}

// some is a handle by chance: one that was made, live or not, one beside it, or an odd one.
func some(r *rand.Rand, a *pair) uint64 {
	all := append(a.other.handles(), 0)
	h := all[r.Intn(len(all))]
	switch n := r.Intn(20); {
	case n < 2:
		return h + uint64(r.Intn(5)) - 2
	case n < 4:
		return h + uint64(r.Intn(5))<<32 - 2<<32
	case n < 5:
		l := odd(a.other.slots)
		return l[r.Intn(len(l))]
	case n < 13:
		if live := a.table.Live(); len(live) > 0 {
			return live[r.Intn(len(live))]
		}
	}
	return h
}

// step does one thing by chance to a table and to the other hand's, and tells both answers.
func step(r *rand.Rand, a *pair, lean int) (got, want string) {
	h, at := some(r, a), r.Intn(100)-5
	switch n := r.Intn(20) + lean; {
	case n < 9:
		return one(a.table.Make(at)), a.other.make(at)
	case n < 12:
		return line(a.table.Move(h, at)), a.other.move(h, at)
	default:
		return line(a.table.Free(h)), a.other.free(h)
	}
}

// P8.1, P8.2, P8.3: things done by chance, held against another hand, with all that the table tells.
func TestByChance(t *testing.T) {
	r := rand.New(rand.NewSource(8))
	full, empty := 0, 0
	for run := range 60 {
		slots := 1 + r.Intn(1+r.Intn(70))
		a := &pair{made(t, slots), &other{slots: slots}}
		for k := range 200 {
			got, want := step(r, a, k/40%2*6-3)
			of := append(a.other.handles(), odd(slots)...)
			if got != want || picture(a.table, of) != a.other.picture(of) {
				t.Fatalf("run %d: %s, want %s, and all it tells:\n%s\nwant\n%s", run, got, want, picture(a.table, of), a.other.picture(of))
			}
			if a.table.Count() == slots {
				full++
			}
			if a.table.Count() == 0 {
				empty++
			}
		}
	}
	if full < 100 || empty < 100 {
		t.Errorf("the table was full %d times, empty %d times", full, empty)
	}
}
