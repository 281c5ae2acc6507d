package arena_test

import (
	"math/rand"
	"testing"

	"tidemark/api"
	"tidemark/arena"
	"tidemark/sample"
)

// R1: no call panics, whatever numbers it is handed; what is refused changes nothing (R3), beside zero values (R2).
func TestAnyNumbers(t *testing.T) {
	a := &pair{made(t, 100), &other{room: 100}}
	numbers := sample.Numbers(3)
	for range 2 {
		for _, tag := range numbers {
			for _, refs := range numbers {
				for _, size := range numbers {
					for _, owner := range numbers {
						tells(t, "Alloc", asked{tag, refs, size, owner}.of(a.arena), a.other.alloc(tag, refs, size, owner))
					}
				}
			}
		}
		tells(t, "what it tells", picture(a.arena), a.other.picture())
		for _, at := range numbers {
			if x, _ := a.other.at(at); x == nil {
				nothing(t, a.arena, at)
			}
		}
		a.arena.Open()
		a.other.opens()
	}
}

// R1: an arena that New did not make has no words; one that is none refuses all.
func TestNoArena(t *testing.T) {
	a := &arena.Arena{}
	tells(t, "the arena", bounds(a), 0, 0, 0)
	tells(t, "Alloc", one(a.Alloc(1, 0, 0, 0)), 0, api.ErrFull)
	tells(t, "its way", way(t, a), "0 1")
	tells(t, "Open", line(a.Open()), api.OK)
	refuses(t, a, api.ErrEnd, "Keep", "Skip")
	tells(t, "Close", line(a.Close()), api.OK)
	a, _ = arena.New(-1)
	for _, at := range sample.Numbers() {
		nothing(t, a, at)
	}
	tells(t, "the arena", bounds(a), 0, 0, 0)
	tells(t, "Gap", gap(a.Gap()), 0, 0, false)
	tells(t, "First", line(a.First()), 0)
	tells(t, "Alloc", one(a.Alloc(1, 0, 0, 0)), 0, api.ErrArg)
	refuses(t, a, api.ErrArg, "Open", "Keep", "Skip", "Close")
}

// R5: arenas that were told the same tell the same, whatever others were told between.
func TestArenasApart(t *testing.T) {
	r, s := rand.New(rand.NewSource(5)), rand.New(rand.NewSource(5))
	between := &pair{made(t, 50), &other{room: 50}}
	a, b := &pair{made(t, 40), &other{room: 40}}, &pair{made(t, 40), &other{room: 40}}
	by := rand.New(rand.NewSource(6))
	for range 400 {
		step(r, a, 2)
		step(by, between, 2)
	}
	for range 400 {
		step(s, b, 2)
	}
	if picture(a.arena) != picture(b.arena) {
		t.Errorf("arenas that were told the same differ")
	}
}
