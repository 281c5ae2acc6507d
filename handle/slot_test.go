package handle

import (
	"math"
	"testing"

	"tidemark/api"
)

// P8.3: handles up to the last generation, which calls alone would take too long to come to. (The promise ends there;
// what follows must not panic, and tells no handle that was freed yet.)
func TestLastGenerations(t *testing.T) {
	x, _ := New(2)
	first, _ := x.Make(5)
	other, _ := x.Make(6)
	x.slot(0).generation = math.MaxUint32 - 1
	h := uint64(math.MaxUint32-1)<<32 + 1
	for _, next := range []uint64{math.MaxUint32<<32 + 1, 1} {
		if at, e := x.At(h); at != 5 || e != api.OK {
			t.Errorf("At(%d): %d %d", h, at, int(e))
		}
		if e := x.Free(h); e != api.OK {
			t.Errorf("Free(%d): %d", h, int(e))
		}
		made, e := x.Make(5)
		if made != next || e != api.OK {
			t.Errorf("Make: %d %d, want %d", made, int(e), next)
		}
		for _, old := range []uint64{first, h, 0} {
			if at, e := x.At(old); at != 0 || e != api.ErrStale {
				t.Errorf("At(%d): %d %d", old, at, int(e))
			}
		}
		if at, e := x.At(other); at != 6 || e != api.OK {
			t.Errorf("At(%d): %d %d", other, at, int(e))
		}
		h = made
	}
}

// A table has memory for the slots that were taken at some time, and no more.
func TestPages(t *testing.T) {
	x, _ := New(api.MaxHandles)
	for k := range 1000 {
		want := (k + 63) / 64
		if len(x.pages) != want {
			t.Fatalf("%d slots were taken: %d pages, want %d", k, len(x.pages), want)
		}
		h, _ := x.Make(k)
		x.Free(h)
		x.Make(k)
	}
}
