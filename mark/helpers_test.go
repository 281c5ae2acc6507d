package mark_test

import (
	"fmt"
	"slices"
	"testing"

	"tidemark/api"
	"tidemark/heap"
	"tidemark/mark"
)

// made is an empty heap.
func made(t *testing.T, words, slots int) *heap.Heap {
	t.Helper()
	h, e := heap.New(words, slots)
	fine(t, e)
	return h
}

// makes is the handle of a new object of so many refs, and one scalar.
func makes(t *testing.T, h *heap.Heap, refs int) uint64 {
	t.Helper()
	x, e := h.Make(1, refs, refs+1)
	fine(t, e)
	return x
}

// many are the handles of n new objects.
func many(t *testing.T, h *heap.Heap, n, refs int) []uint64 {
	t.Helper()
	l := make([]uint64, n)
	for i := range l {
		l[i] = makes(t, h, refs)
	}
	return l
}

// begun is a marker with a marking at work.
func begun(t *testing.T, h *heap.Heap) *mark.Marker {
	t.Helper()
	m := mark.New(h)
	fine(t, m.Start())
	return m
}

// fine sees to it that calls answered OK.
func fine(t *testing.T, errors ...api.Errno) {
	t.Helper()
	for i, e := range errors {
		if e != api.OK {
			t.Fatalf("call %d: %d", i, int(e))
		}
	}
}

// tells sees to it that calls told these answers, shown as texts.
func tells(t *testing.T, call string, got string, want ...any) {
	t.Helper()
	if w := line(want...); got != w {
		t.Errorf("%s: %s, want %s", call, got, w)
	}
}

// line shows answers; an Errno as its number.
func line(answers ...any) string {
	s := ""
	for i, x := range answers {
		if e, ok := x.(api.Errno); ok {
			x = int(e)
		}
		if i > 0 {
			s += " "
		}
		s += fmt.Sprint(x)
	}
	return s
}

// one shows what a call answers.
func one[T any](x T, e api.Errno) string { return line(x, e) }

// marks shows of each handle whether it is marked: + or -, or ? for one that is refused.
func marks(m *mark.Marker, of []uint64) string {
	s := ""
	for _, x := range of {
		switch on, e := m.Marked(x); {
		case e != api.OK:
			s += "?"
		case on:
			s += "+"
		default:
			s += "-"
		}
	}
	return s
}

// shown shows how many wait, and what is marked.
func shown(m *mark.Marker, of []uint64) string { return line(m.Waiting(), marks(m, of)) }

// picture shows all that a heap tells, the marks in it too.
func picture(h *heap.Heap) string {
	s := fmt.Appendln(nil, h.Table().Live(), h.Graph(), int(h.Check()))
	for at := h.Arena().First(); at < h.Arena().Top(); at, _ = h.Arena().Next(at) {
		head, _ := h.Arena().Head(at)
		s = fmt.Append(s, at, head)
		for i := range head.Size {
			w, _ := h.Arena().Get(at, i)
			s = fmt.Append(s, " ", w)
		}
	}
	return string(s)
}

// slid slides the objects together, all but those of these handles, whose slots are freed.
func slid(t *testing.T, h *heap.Heap, gone ...uint64) {
	t.Helper()
	a := h.Arena()
	fine(t, a.Open())
	for {
		_, high, _ := a.Gap()
		head, e := a.Head(high)
		if e != api.OK {
			break
		}
		x, e := h.Table().Of(head.Owner)
		fine(t, e)
		if slices.Contains(gone, x) {
			_, e := a.Skip()
			fine(t, e, h.Table().Free(x))
			continue
		}
		_, to, e := a.Keep()
		fine(t, e, h.Table().Move(x, to))
	}
	fine(t, a.Close())
}

// reached are the handles of what is reached. What others freed, and is held still, is nothing.
func reached(t *testing.T, h *heap.Heap) map[uint64]bool {
	t.Helper()
	all := map[uint64]bool{}
	var list []uint64
	meet := func(x uint64, e api.Errno) {
		fine(t, e)
		if _, e := h.Table().At(x); e == api.OK && !all[x] {
			all[x] = true
			list = append(list, x)
		}
	}
	for i := range 16 {
		meet(h.Root(i))
	}
	for k := 0; k < len(list); k++ {
		_, refs, _, _ := h.Head(list[k])
		for i := range refs {
			meet(h.Ref(list[k], i))
		}
	}
	return all
}

// follows sees to it that all that is reached is marked; and, where nothing was changed since Start, nothing else.
func follows(t *testing.T, h *heap.Heap, m *mark.Marker, changed bool) {
	t.Helper()
	all := reached(t, h)
	for _, x := range h.Table().Live() {
		on, e := m.Marked(x)
		fine(t, e)
		if all[x] && !on {
			t.Errorf("%d is reached, and not marked", x)
		}
		if !changed && on && !all[x] {
			t.Errorf("%d is marked, and not reached", x)
		}
	}
}

// steps goes on in steps of n units till a marking is done, and tells how many steps that took.
func steps(t *testing.T, m *mark.Marker, n int) int {
	t.Helper()
	for k := 1; ; k++ {
		was := m.Waiting()
		over, e := m.Step(n)
		fine(t, e)
		if over != (m.Waiting() == 0) {
			t.Errorf("Step(%d) told %v, and %d wait", n, over, m.Waiting())
		}
		if over {
			return k
		}
		if was == 0 || k > 2000000 {
			t.Fatalf("after %d steps of %d units %d wait, where %d did", k, n, m.Waiting(), was)
		}
	}
}
