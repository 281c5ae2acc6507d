package mark_test

import (
	"math"
	"slices"
	"testing"

	"tidemark/api"
	"tidemark/mark"
	"tidemark/sample"
)

// The examples of chapter 10.
func TestExamples(t *testing.T) {
	h := made(t, 100, 20)
	x, y, z := makes(t, h, 1), makes(t, h, 0), makes(t, h, 0)
	fine(t, h.SetRef(x, 0, y), h.SetRoot(0, x))
	m := mark.New(h)

	tells(t, "Step(1)", one(m.Step(1)), false, api.ErrState)
	tells(t, "Start", line(m.Start()), api.OK)
	tells(t, "Waiting", line(m.Waiting()), 1)
	tells(t, "Step(1)", one(m.Step(1)), false, api.OK)
	tells(t, "Step(1)", one(m.Step(1)), true, api.OK)

	tells(t, "Marked(x)", one(m.Marked(x)), true, api.OK)
	tells(t, "Marked(y)", one(m.Marked(y)), true, api.OK)
	tells(t, "Marked(z)", one(m.Marked(z)), false, api.OK)
	tells(t, "Start", line(m.Start()), api.ErrState)
}

// idle sees to it that no marking is at work: Step, of whatever n, and Stop are refused and change nothing.
func idle(t *testing.T, m *mark.Marker) {
	t.Helper()
	was := m.Waiting()
	tells(t, "Running", line(m.Running()), false)
	for _, n := range sample.Numbers(1, -5) {
		tells(t, line("Step", n), one(m.Step(n)), false, api.ErrState)
	}
	tells(t, "Stop", line(m.Stop()), api.ErrState)
	tells(t, "Running, Waiting", line(m.Running(), m.Waiting()), false, was)
}

// P10.1: no marking is at work behind New, and behind Stop.
func TestNoneAtWork(t *testing.T) {
	h := made(t, 100, 20)
	l := many(t, h, 4, 1)
	fine(t, h.SetRoot(0, l[0]), h.SetRef(l[0], 0, l[1]))
	was := picture(h)
	m := mark.New(h)
	tells(t, "behind New", shown(m, l), "0 ----")
	idle(t, m)
	tells(t, "behind New", shown(m, l), "0 ----")
	tells(t, "the heap", picture(h), was)
	for range 3 {
		fine(t, m.Start())
		tells(t, "Running behind Start", line(m.Running()), true)
		steps(t, m, 1)
		tells(t, "Running, all done", line(m.Running()), true)
		tells(t, "Stop", line(m.Stop()), api.OK)
		idle(t, m)
		tells(t, "behind Stop", shown(m, l), "0 ++--")
	}
}

// P10.1: Start while a marking is at work is refused, and changes nothing: neither the stack nor a mark.
func TestStartTwice(t *testing.T) {
	h := made(t, 100, 20)
	l := many(t, h, 5, 1)
	for i := range 3 {
		fine(t, h.SetRef(l[i], 0, l[i+1]))
	}
	fine(t, h.SetRoot(3, l[0]))
	m := begun(t, h)
	for _, want := range []string{"1 +----", "1 ++---", "1 +++--", "1 ++++-", "0 ++++-", "0 ++++-"} {
		was := picture(h)
		tells(t, "Start", line(m.Start()), api.ErrState)
		tells(t, "it goes on", line(m.Running(), shown(m, l)), true, want)
		tells(t, "the heap", picture(h), was)
		_, e := m.Step(1)
		fine(t, e)
	}
}

// P10.1: Start puts all marks off: those that were left by others and by markings before, of what is reached or not.
func TestStartMarksOff(t *testing.T) {
	h := made(t, 100, 20)
	l := many(t, h, 6, 2)
	for at := h.Arena().First(); at < h.Arena().Top(); at, _ = h.Arena().Next(at) {
		fine(t, h.Arena().Mark(at, true))
	}
	fine(t, h.SetRoot(0, l[1]), h.SetRef(l[1], 0, l[2]), h.SetRef(l[4], 1, l[5]))
	m := mark.New(h)
	tells(t, "ahead of Start", shown(m, l), "0 ++++++")
	fine(t, m.Start())
	tells(t, "behind Start", shown(m, l), "1 -+----")
	steps(t, m, 3)
	tells(t, "done", shown(m, l), "0 -++---")
	fine(t, m.Stop(), h.SetRoot(0, 0), h.SetRoot(15, l[4]), m.Start())
	tells(t, "behind Start", shown(m, l), "1 ----+-")
	steps(t, m, 3)
	tells(t, "done", shown(m, l), "0 ----++")
	fine(t, m.Stop(), h.SetRoot(15, 0), m.Start())
	tells(t, "without roots", shown(m, l), "0 ------")
	tells(t, "Step(1)", one(m.Step(1)), true, api.OK)
	tells(t, "without roots", line(m.Running(), shown(m, l)), true, "0 ------")
}

// P10.1: with the arena's gap open, be it ahead of all objects, the marks on both sides of it are put off.
func TestStartMarksOffBesideGap(t *testing.T) {
	h := made(t, 100, 20)
	l := many(t, h, 5, 1)
	m := mark.New(h)
	look := func(was, want string) {
		t.Helper()
		for at := h.Arena().First(); at < h.Arena().Top(); at, _ = h.Arena().Next(at) {
			fine(t, h.Arena().Mark(at, true))
		}
		tells(t, "ahead of Start", marks(m, l), was)
		fine(t, m.Start())
		tells(t, "behind Start", shown(m, l), want)
		fine(t, m.Stop())
	}
	fine(t, h.SetRoot(1, l[3]), h.Arena().Open(), h.Table().Free(l[0]))
	_, e := h.Arena().Skip()
	fine(t, e)
	look("?++++", "1 ?--+-")
	_, to, e := h.Arena().Keep()
	fine(t, e, h.Table().Move(l[1], to))
	look("?++++", "1 ?--+-")
}

// P10.1: roots that hold the same object put it on the stack once; one that is 0 puts nothing there.
func TestRoots(t *testing.T) {
	h := made(t, 200, 40)
	l := many(t, h, 17, 1)
	m := mark.New(h)
	again := func(call, want string) {
		t.Helper()
		fine(t, m.Start())
		tells(t, call, shown(m, l), want)
		fine(t, m.Stop())
	}
	again("no root", "0 -----------------")
	fine(t, h.SetRoot(7, l[2]))
	again("one root", "1 --+--------------")
	fine(t, h.SetRoot(2, l[2]), h.SetRoot(15, l[2]), h.SetRoot(8, l[0]))
	again("two objects of four roots", "2 +-+--------------")
	fine(t, h.SetRoot(7, 0), h.SetRoot(2, 0))
	again("two roots", "2 +-+--------------")
	for i := range 16 {
		fine(t, h.SetRoot(i, l[i]))
	}
	again("all roots", "16 ++++++++++++++++-")
	for i := range 16 {
		fine(t, h.SetRoot(i, l[16]))
	}
	again("all roots, one object", "1 ----------------+")
}

// P10.1: what is put on the stack last is taken first; roots are put there from the lowest on, refs from the first on,
// each that is not 0 and not marked.
func TestOrder(t *testing.T) {
	h := made(t, 200, 40)
	l := many(t, h, 10, 3)
	a, b, c, d, e, f, g, i, j := l[0], l[1], l[2], l[3], l[4], l[5], l[6], l[7], l[8]
	fine(t, h.SetRoot(0, a), h.SetRoot(3, b), h.SetRoot(9, a))
	fine(t, h.SetRef(a, 0, c), h.SetRef(a, 2, d), h.SetRef(b, 0, e), h.SetRef(b, 1, f), h.SetRef(b, 2, a))
	fine(t, h.SetRef(e, 2, g), h.SetRef(f, 0, b), h.SetRef(g, 0, e), h.SetRef(g, 1, g), h.SetRef(c, 1, i), h.SetRef(d, 0, j), h.SetRef(d, 1, d))
	m := begun(t, h)
	tells(t, "Start", shown(m, l), "2 ++--------")
	for k, want := range []string{
		"3 ++--++----", // b was taken: e, f
		"2 ++--++----", // f
		"2 ++--+++---", // e: g
		"1 ++--+++---", // g
		"2 +++++++---", // a: c, d
		"2 +++++++-+-", // d: j
		"1 +++++++-+-", // j
		"1 +++++++++-", // c: i
		"0 +++++++++-", // i
	} {
		tells(t, line("Step(1),", k), one(m.Step(1)), k == 8, api.OK)
		tells(t, line("unit", k), shown(m, l), want)
	}
}

// row is a heap whose root 0 holds the first of n objects, and each of them the next.
func row(t *testing.T, n int) (*mark.Marker, []uint64) {
	t.Helper()
	h := made(t, 3*n+10, n+3)
	l := many(t, h, n, 1)
	for i := range n - 1 {
		fine(t, h.SetRef(l[i], 0, l[i+1]))
	}
	fine(t, h.SetRoot(0, l[0]))
	return mark.New(h), l
}

// P10.1: Step does at most n units, and tells whether the stack holds nothing then.
func TestStep(t *testing.T) {
	for _, c := range []struct {
		n    int
		want []string
	}{
		{1, []string{"false 1 ++---", "false 1 +++--", "false 1 ++++-", "false 1 +++++", "true 0 +++++", "true 0 +++++"}},
		{2, []string{"false 1 +++--", "false 1 +++++", "true 0 +++++", "true 0 +++++"}},
		{3, []string{"false 1 ++++-", "true 0 +++++", "true 0 +++++"}},
		{4, []string{"false 1 +++++", "true 0 +++++"}},
		{5, []string{"true 0 +++++", "true 0 +++++"}},
		{6, []string{"true 0 +++++"}},
		{math.MaxInt, []string{"true 0 +++++", "true 0 +++++"}},
	} {
		m, l := row(t, 5)
		fine(t, m.Start())
		tells(t, "Start", shown(m, l), "1 +----")
		for k, want := range c.want {
			over, e := m.Step(c.n)
			tells(t, line("Step", c.n, "the time", k), line(e, over, shown(m, l)), 0, want)
		}
	}
}

// P10.1: Step of n below 1 is refused while a marking is at work, and changes nothing; also when it is done.
func TestStepRefuses(t *testing.T) {
	m, l := row(t, 3)
	fine(t, m.Start())
	for _, want := range []string{"1 +--", "1 ++-", "1 +++", "0 +++", "0 +++"} {
		for _, n := range sample.Numbers(-7) {
			if n < 1 {
				tells(t, line("Step", n), one(m.Step(n)), false, api.ErrArg)
			}
		}
		tells(t, "it is as it was", line(m.Running(), shown(m, l)), true, want)
		_, e := m.Step(1)
		fine(t, e)
	}
}

// P10.1: a unit goes through the refs alone, not through scalars that look like handles.
func TestScalars(t *testing.T) {
	h := made(t, 100, 20)
	l := many(t, h, 4, 1)
	fine(t, h.SetRoot(0, l[0]), h.SetRef(l[0], 0, l[2]), h.SetWord(l[0], 0, l[1]), h.SetWord(l[2], 0, l[3]))
	m := begun(t, h)
	steps(t, m, 5)
	tells(t, "what is marked", marks(m, l), "+-+-")
}

// P10.1: Stop in the middle: the marks stay, and no Step goes on; Start begins anew.
func TestStopInTheMiddle(t *testing.T) {
	for n := range 6 {
		m, l := row(t, 5)
		fine(t, m.Start())
		if n > 0 {
			_, e := m.Step(n)
			fine(t, e)
		}
		was := marks(m, l)
		tells(t, "Stop", line(m.Stop()), api.OK)
		idle(t, m)
		tells(t, "the marks", marks(m, l), was)
		fine(t, m.Start())
		tells(t, "Start again", line(m.Running(), shown(m, l)), true, "1 +----")
		tells(t, "how many units", line(steps(t, m, 1)), 5)
		tells(t, "done", shown(m, l), "0 +++++")
	}
}

// P10.1: Stop says nothing of the stack: it holds what it held, till Start.
func TestWaitingBehindStop(t *testing.T) {
	h := made(t, 100, 20)
	l := many(t, h, 4, 1)
	fine(t, h.SetRoot(0, l[0]), h.SetRoot(1, l[1]), h.SetRoot(2, l[2]))
	m := begun(t, h)
	tells(t, "Step(1)", one(m.Step(1)), false, api.OK)
	fine(t, m.Stop())
	tells(t, "behind Stop", shown(m, l), "2 +++-")
	fine(t, h.SetRoot(0, 0), h.SetRoot(1, 0), m.Start())
	tells(t, "behind Start", shown(m, l), "1 --+-")
	tells(t, "Step(1)", one(m.Step(1)), true, api.OK)
}

// P10.1: Marked of live handles, at work or not, and of those that stand for nothing.
func TestMarked(t *testing.T) {
	h := made(t, 100, 5)
	l := many(t, h, 4, 1)
	fine(t, h.SetRoot(0, l[1]))
	m := mark.New(h)
	look := func(x uint64, want bool) {
		t.Helper()
		tells(t, line("Marked", x), one(m.Marked(x)), want, api.OK)
		for _, y := range []uint64{0, x + 4, x - 1<<32, x + 1<<32, x + 1<<63, x & (1<<32 - 1), x >> 32 << 32, 1<<64 - 1} {
			if !slices.Contains(h.Table().Live(), y) {
				tells(t, line("Marked", y), one(m.Marked(y)), false, api.ErrStale)
			}
		}
	}
	look(l[1], false)
	fine(t, m.Start())
	look(l[1], true)
	look(l[2], false)
	fine(t, m.Stop())
	look(l[1], true)
	slid(t, h, l[0], l[2])
	tells(t, "freed ones", marks(m, l), "?+?-")
	x := makes(t, h, 1)
	tells(t, "one in a slot that was freed", line(x&(1<<32-1), one(m.Marked(x))), l[2]&(1<<32-1), false, 0)
	tells(t, "the freed ones", marks(m, l), "?+?-")
	fine(t, h.SetRoot(0, x), m.Start())
	look(x, true)
	tells(t, "the others", marks(m, l), "?-?-")
}

// P10.1: a marking marks in the heap itself: each object's head tells its mark.
func TestHeads(t *testing.T) {
	m, l := row(t, 3)
	h := made(t, 50, 5)
	x, y, z := makes(t, h, 1), makes(t, h, 1), makes(t, h, 1)
	fine(t, h.SetRoot(4, y), h.SetRef(y, 0, z))
	tells(t, "another heap's", line(m.Start(), marks(m, l)), 0, "+--")
	m = begun(t, h)
	steps(t, m, 1)
	for _, c := range []struct {
		x    uint64
		want bool
	}{{x, false}, {y, true}, {z, true}} {
		at, e := h.Table().At(c.x)
		fine(t, e)
		head, e := h.Arena().Head(at)
		tells(t, line("the mark of", c.x), line(head.Mark, e), c.want, api.OK)
	}
}
