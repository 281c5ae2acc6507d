package mark_test

import (
	"math"
	"math/rand"
	"testing"

	"tidemark/api"
	"tidemark/heap"
	"tidemark/mark"
)

// some is a handle by chance: mostly a live one, at times 0 or one that was freed.
func some(r *rand.Rand, a *pair) uint64 {
	if l := a.other.names(); len(l) > 0 && r.Intn(20) == 0 {
		return l[r.Intn(len(l))]
	}
	if l := a.other.things; len(l) > 0 && r.Intn(12) > 0 {
		return l[r.Intn(len(l))].name
	}
	return 0
}

// step does one thing by chance to a heap with a marker and to the other hand's, and tells both answers.
func step(t *testing.T, r *rand.Rand, a *pair) (got, want string) {
	t.Helper()
	switch n := r.Intn(100); {
	case n < 20:
		refs := r.Intn(4)
		if x, e := a.heap.Make(1, refs, refs+r.Intn(3)); e == api.OK {
			a.other.made(x, refs)
		}
	case n < 50:
		x, y, i := some(r, a), some(r, a), r.Intn(4)
		if a.heap.SetRef(x, i, y) == api.OK {
			a.other.of(x).refs[i] = a.other.of(y)
			a.other.linked(a.other.of(y))
		}
	case n < 60:
		x, i := some(r, a), r.Intn(16)
		if a.heap.SetRoot(i, x) == api.OK {
			a.other.roots[i] = a.other.of(x)
			a.other.linked(a.other.of(x))
		}
	case n < 65:
		return line(a.marker.Start()), a.other.start()
	case n < 92:
		units := r.Intn(4)
		return one(a.marker.Step(units)), a.other.step(units)
	case n < 95:
		return line(a.marker.Stop()), a.other.stop()
	case !a.other.running:
		a.collect(t, r)
	}
	return "", ""
}

// collect lets some of what is not reached go, and slides the rest together. Refs to what is gone stand for nothing.
func (a *pair) collect(t *testing.T, r *rand.Rand) {
	t.Helper()
	slid(t, a.heap, a.other.lose(func() bool { return r.Intn(3) > 0 })...)
}

// P10.1, P10.2: things done by chance, held against another hand.
func TestByChance(t *testing.T) {
	r := rand.New(rand.NewSource(10))
	ended, unchanged := 0, 0
	for run := range 200 {
		h := made(t, 20+r.Intn(200), 5+r.Intn(40))
		a := &pair{h, mark.New(h), &other{}}
		for range 200 {
			got, want := step(t, r, a)
			of := a.other.names()
			got = line(got, a.marker.Running(), shown(a.marker, of))
			want = line(want, a.other.running, a.other.pile.height(), a.other.marks(of))
			if got != want {
				t.Fatalf("run %d: %s, want %s", run, got, want)
			}
			if a.other.puts() > 1 {
				t.Fatalf("run %d: the other hand put something on its stack twice", run)
			}
			if !a.other.running || a.other.pile != nil {
				continue
			}
			ended++
			follows(t, h, a.marker, a.other.changed)
			if !a.other.changed && len(a.other.reached()) > 2 {
				unchanged++
			}
		}
	}
	if ended < 1000 || unchanged < 100 {
		t.Errorf("%d times a marking was done, %d times nothing was changed", ended, unchanged)
	}
}

// shape is a way in which objects hang together: link makes the object i hold others, all of which are reached from the
// first one then.
type shape struct {
	name string
	refs int
	link func(h *heap.Heap, l []uint64, i int) api.Errno
}

// sizes are how many units steps may have.
func sizes() []int { return []int{1, 2, 3, 7, 100, math.MaxInt} }

func shapes() []shape {
	return []shape{
		{"a row", 1, func(h *heap.Heap, l []uint64, i int) api.Errno {
			if i+1 == len(l) {
				return api.OK
			}
			return h.SetRef(l[i], 0, l[i+1])
		}},
		{"a ring", 1, func(h *heap.Heap, l []uint64, i int) api.Errno { return h.SetRef(l[i], 0, l[(i+1)%len(l)]) }},
		{"a ring of two ways", 3, func(h *heap.Heap, l []uint64, i int) api.Errno {
			h.SetRef(l[i], 0, l[(i+1)%len(l)])
			return h.SetRef(l[i], 2, l[(i+len(l)-1)%len(l)])
		}},
		{"objects that hold themselves", 4, func(h *heap.Heap, l []uint64, i int) api.Errno {
			h.SetRef(l[i], 0, l[i])
			h.SetRef(l[i], 1, l[(i+1)%len(l)])
			return h.SetRef(l[i], 3, l[i])
		}},
		{"a tree", 2, func(h *heap.Heap, l []uint64, i int) api.Errno {
			if i == 0 {
				return api.OK
			}
			return h.SetRef(l[(i-1)/2], (i-1)%2, l[i])
		}},
		{"many ways to each", 5, func(h *heap.Heap, l []uint64, i int) api.Errno {
			for k := range 5 {
				h.SetRef(l[i], k, l[(i*(k+1)+1)%len(l)])
			}
			return api.OK
		}},
	}
}

// build makes a heap of n objects of a shape, with some others beside that nothing holds, and that hold what is reached.
func (s shape) build(t *testing.T, n int) (*heap.Heap, []uint64) {
	t.Helper()
	h := made(t, 2*n*(s.refs+2), 3*n)
	l := many(t, h, n, s.refs)
	for i := range l {
		fine(t, s.link(h, l, i))
	}
	beside := many(t, h, n/3, s.refs)
	for i, x := range beside {
		fine(t, h.SetRef(x, 0, l[i]))
	}
	fine(t, h.SetRoot(5, l[0]))
	return h, l
}

// P10.2: a marking of whatever shape, in steps of whatever size, ends with all that is reached marked, and nothing else;
// it has as many units as objects are reached: each comes to the stack once.
func TestShapes(t *testing.T) {
	for _, s := range shapes() {
		for _, n := range []int{1, 2, 3, 50, 3000} {
			h, _ := s.build(t, n)
			m := mark.New(h)
			for _, size := range sizes() {
				fine(t, m.Start())
				tells(t, line("steps of", size, "in", s.name, "of", n), line(steps(t, m, size)), (n-1)/size+1)
				follows(t, h, m, false)
				fine(t, m.Stop())
			}
		}
	}
}

// P10.2: a row of as many objects as an arena has room for.
func TestLongRow(t *testing.T) {
	h := made(t, api.MaxWords, api.MaxHandles)
	last := uint64(0)
	for range api.MaxWords / 2 {
		x, e := h.Make(1, 1, 1)
		fine(t, e, h.SetRef(x, 0, last))
		last = x
	}
	fine(t, h.SetRoot(0, last))
	m := begun(t, h)
	tells(t, "all but one unit", one(m.Step(api.MaxWords/2-1)), false, api.OK)
	tells(t, "what waits", line(m.Waiting()), 1)
	tells(t, "the last unit", one(m.Step(1)), true, api.OK)
	for _, x := range h.Table().Live() {
		if on, e := m.Marked(x); !on || e != api.OK {
			t.Fatalf("Marked(%d): %v, %d", x, on, int(e))
		}
	}
}

// P10.2: an object with as many refs as may be.
func TestWide(t *testing.T) {
	h := made(t, 20000, 5000)
	x, e := h.Make(1, 4096, 4096)
	fine(t, e, h.SetRoot(0, x))
	l := many(t, h, 4096, 0)
	for i, y := range l {
		fine(t, h.SetRef(x, i, y))
	}
	m := begun(t, h)
	tells(t, "Step(1)", one(m.Step(1)), false, api.OK)
	tells(t, "what waits", line(m.Waiting()), 4096)
	tells(t, "Step(4095)", one(m.Step(4095)), false, api.OK)
	tells(t, "Step(1)", one(m.Step(1)), true, api.OK)
	follows(t, h, m, false)
}

// P10.2: an object that is taken from one that waits, and handed to one that is done, is not missed.
func TestHidden(t *testing.T) {
	for _, by := range []string{"ref", "root", "new object"} {
		h := made(t, 100, 20)
		l := many(t, h, 5, 1)
		waits, done, hidden := l[0], l[1], l[2]
		fine(t, h.SetRoot(0, waits), h.SetRoot(1, done), h.SetRef(waits, 0, hidden), h.SetRef(hidden, 0, l[3]))
		m := begun(t, h)
		tells(t, "Step(1)", one(m.Step(1)), false, api.OK)
		tells(t, "what is marked", shown(m, l), "1 ++---")
		switch by {
		case "ref":
			fine(t, h.SetRef(done, 0, hidden))
		case "root":
			fine(t, h.SetRoot(7, hidden))
		default:
			x := makes(t, h, 1)
			fine(t, h.SetRef(x, 0, hidden), h.SetRef(done, 0, x))
		}
		fine(t, h.SetRef(waits, 0, 0))
		steps(t, m, 1)
		tells(t, "hidden by a "+by, shown(m, l), "0 ++++-")
		follows(t, h, m, true)
	}
}

// P10.2: what was reached at Start and is let go ahead of the marker's coming is not marked by it, and what it met
// already stays marked.
func TestLetGo(t *testing.T) {
	h := made(t, 100, 20)
	l := many(t, h, 5, 1)
	fine(t, h.SetRoot(0, l[0]), h.SetRef(l[0], 0, l[1]), h.SetRef(l[1], 0, l[2]), h.SetRef(l[2], 0, l[3]))
	m := begun(t, h)
	tells(t, "Step(1)", one(m.Step(1)), false, api.OK)
	fine(t, h.SetRef(l[1], 0, 0), h.SetRoot(0, 0))
	steps(t, m, 1)
	tells(t, "what is marked", shown(m, l), "0 ++---")
}

// P10.2: while others make, link and set between the steps: all that is reached is marked when Step has told true, and
// there were no more units than objects. The others come to an end at some time.
func TestOthersBetween(t *testing.T) {
	r := rand.New(rand.NewSource(102))
	for _, s := range shapes() {
		for _, size := range sizes() {
			h, l := s.build(t, 150)
			m := begun(t, h)
			units, made := 0, 0
			for busy := 250; busy > 0 || m.Waiting() > 0; busy-- {
				if busy > 0 {
					made += disturb(t, r, h, l)
				}
				was := m.Waiting()
				over, e := m.Step(size)
				fine(t, e)
				if size == 1 && was > 0 {
					units++
				}
				if over != (m.Waiting() == 0) {
					t.Errorf("Step told %v, and %d wait", over, m.Waiting())
				}
				if over && busy%10 == 0 {
					follows(t, h, m, true)
				}
			}
			follows(t, h, m, true)
			if units > h.Table().Count()-made {
				t.Errorf("%s: %d units for %d objects, and %d were made since", s.name, units, h.Table().Count(), made)
			}
		}
	}
}

// disturb changes something by chance, and tells how many objects it made.
func disturb(t *testing.T, r *rand.Rand, h *heap.Heap, l []uint64) int {
	t.Helper()
	live := h.Table().Live()
	x, y := live[r.Intn(len(live))], live[r.Intn(len(live))]
	switch r.Intn(5) {
	case 0:
		z := makes(t, h, 1)
		fine(t, h.SetRef(x, 0, z), h.SetRef(z, 0, y))
		return 1
	case 1:
		fine(t, h.SetRef(x, 0, y))
	case 2:
		fine(t, h.SetRef(x, 0, 0), h.SetWord(y, 0, x))
	case 3:
		fine(t, h.SetRoot(r.Intn(16), y))
	default:
		held, e := h.Ref(x, 0)
		fine(t, e, h.SetRef(y, 0, held), h.SetRef(x, 0, 0), h.SetRoot(5, l[r.Intn(len(l))]))
	}
	return 0
}
