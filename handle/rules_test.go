package handle_test

import (
	"math/rand"
	"testing"

	"tidemark/api"
	"tidemark/handle"
	"tidemark/sample"
)

// none sees to it that a table without slots tells nothing, at all arguments.
func none(t *testing.T, x *handle.Table) {
	t.Helper()
	for range 2 {
		tells(t, "Slots, Count, Live", line(x.Slots(), x.Count(), len(x.Live())), 0, 0, 0)
		for _, n := range sample.Numbers(7) {
			want := api.ErrFull
			if n < 0 {
				want = api.ErrArg
			}
			tells(t, line("Make", n), one(x.Make(n)), 0, want)
			tells(t, line("Of", n), one(x.Of(n)), 0, api.ErrArg)
			stale(t, x, uint64(n))
		}
		stale(t, x, odd(1)...)
		stale(t, x, named(0, 1))
	}
}

// R1: a table that New did not make, or that it refused, has no slots.
func TestNoTable(t *testing.T) {
	none(t, &handle.Table{})
	none(t, nil)
	x, _ := handle.New(0)
	none(t, x)
}

// R1: no call panics, whatever numbers it is handed; each is as the other hand has it.
func TestAnyNumbers(t *testing.T) {
	a := &pair{made(t, 30), &other{slots: 30}}
	numbers := sample.Numbers(3, 29, 1048576)
	for range 3 {
		for _, at := range numbers {
			tells(t, line("Make", at), one(a.table.Make(at)), a.other.make(at))
		}
		for k, n := range numbers {
			for _, at := range numbers {
				tells(t, line("Move", n, at), line(a.table.Move(uint64(n), at)), a.other.move(uint64(n), at))
			}
			h := named(k%30, 1+k%3)
			tells(t, line("Free", h), line(a.table.Free(h)), a.other.free(h))
			tells(t, line("Free", n), line(a.table.Free(uint64(n))), a.other.free(uint64(n)))
		}
		of := append(a.other.handles(), odd(30)...)
		for _, n := range numbers {
			of = append(of, uint64(n))
		}
		tells(t, "what it tells", picture(a.table, of), a.other.picture(of))
	}
}

// R4: what Live answers is new memory: it is the caller's, its spare room too.
func TestLiveIsNew(t *testing.T) {
	x, all := filled(t, 5)
	x.Free(all[2])
	was := picture(x, all)
	for range 3 {
		a, b := x.Live(), x.Live()
		a = append(a[:cap(a)], 1, 2, 3)
		clear(a)
		tells(t, "Live", line(b), []uint64{all[0], all[1], all[3], all[4]})
		tells(t, "what it tells", picture(x, all), was)
	}
	l := x.Live()
	x.Free(all[0])
	x.Make(1)
	x.Make(1)
	tells(t, "Live, told ahead", line(l), []uint64{all[0], all[1], all[3], all[4]})
}

// R5: tables that were told the same tell the same, whatever others were told between.
func TestTablesApart(t *testing.T) {
	r, s, by := rand.New(rand.NewSource(5)), rand.New(rand.NewSource(5)), rand.New(rand.NewSource(6))
	a, b := &pair{made(t, 40), &other{slots: 40}}, &pair{made(t, 40), &other{slots: 40}}
	between := &pair{made(t, 50), &other{slots: 50}}
	for range 400 {
		step(r, a, 0)
		step(by, between, 0)
	}
	for range 400 {
		step(s, b, 0)
	}
	of := append(a.other.handles(), odd(40)...)
	if picture(a.table, of) != picture(b.table, of) {
		t.Errorf("tables that were told the same differ")
	}
}
