package heap_test

import (
	"fmt"
	"slices"
	"testing"

	"tidemark/api"
	"tidemark/heap"
)

// made is an empty heap.
func made(t *testing.T, words, slots int) *heap.Heap {
	t.Helper()
	h, e := heap.New(words, slots)
	if e != api.OK || h == nil {
		t.Fatalf("New(%d, %d): %v, %d", words, slots, h != nil, int(e))
	}
	return h
}

// makes is the handle of a new object.
func makes(t *testing.T, h *heap.Heap, tag, refs, size int) uint64 {
	t.Helper()
	x, e := h.Make(tag, refs, size)
	if e != api.OK {
		t.Fatalf("Make(%d, %d, %d): %d", tag, refs, size, int(e))
	}
	return x
}

// fine sees to it that calls answered OK.
func fine(t *testing.T, errors ...api.Errno) {
	t.Helper()
	for i, e := range errors {
		if e != api.OK {
			t.Fatalf("call %d: %d", i, int(e))
		}
	}
}

// named is the handle of a slot with a generation.
func named(slot, generation int) uint64 {
	return uint64(generation)*4294967296 + uint64(slot) + 1
}

// tells sees to it that calls told these answers, shown as texts.
func tells(t *testing.T, call string, got string, want ...any) {
	t.Helper()
	if w := line(want...); got != w {
		t.Errorf("%s: %s, want %s", call, got, w)
	}
}

// line shows answers; an Errno as its number.
func line(answers ...any) string {
	s := ""
	for i, x := range answers {
		if e, ok := x.(api.Errno); ok {
			x = int(e)
		}
		if i > 0 {
			s += " "
		}
		s += fmt.Sprint(x)
	}
	return s
}

// one, head and live show what calls answer.
func one[T any](x T, e api.Errno) string           { return line(x, e) }
func head(tag, refs, size int, e api.Errno) string { return line(tag, refs, size, e) }
func live(objects, words int) string               { return line(objects, words) }

// room is how many words and slots a heap has, and how many of them are taken.
func room(h *heap.Heap) (top, free, slots, taken int) {
	return h.Arena().Top(), h.Arena().Free(), h.Table().Slots(), h.Table().Count()
}

// picture shows all that a heap tells, of its roots, its graph and of these handles, with where its objects are.
func picture(h *heap.Heap, of ...uint64) string {
	s := fmt.Append(nil, line(room(h)), " ", h.Table().Live(), "\n")
	for at := h.Arena().First(); at < h.Arena().Top(); at, _ = h.Arena().Next(at) {
		head, _ := h.Arena().Head(at)
		s = fmt.Appendln(s, at, head)
	}
	return string(s) + outside(h, of...)
}

// outside shows what a heap tells those who go by handles.
func outside(h *heap.Heap, of ...uint64) string {
	s := fmt.Appendln(nil, h.Graph(), live(h.Live()), int(h.Check()))
	for i := -1; i < 18; i++ {
		s = fmt.Appendln(s, "root", i, one(h.Root(i)))
	}
	for _, x := range of {
		_, refs, size, _ := h.Head(x)
		s = fmt.Appendln(s, "object", x, head(h.Head(x)))
		for i := -1; i <= refs; i++ {
			s = fmt.Appendln(s, "ref", i, one(h.Ref(x, i)))
		}
		for i := -1; i <= size-refs; i++ {
			s = fmt.Appendln(s, "word", i, one(h.Word(x, i)))
		}
	}
	return string(s)
}

// slid slides the objects together, all but those of these handles, whose slots are freed.
func slid(t *testing.T, h *heap.Heap, gone ...uint64) {
	t.Helper()
	fine(t, h.Arena().Open())
	for slides(t, h, gone...) {
	}
	fine(t, h.Arena().Close())
}

// slides brings the object behind the gap ahead of it, or lets it go; false: there is none.
func slides(t *testing.T, h *heap.Heap, gone ...uint64) bool {
	t.Helper()
	_, high, _ := h.Arena().Gap()
	head, e := h.Arena().Head(high)
	if e != api.OK {
		return false
	}
	x, e := h.Table().Of(head.Owner)
	fine(t, e)
	if slices.Contains(gone, x) {
		_, e := h.Arena().Skip()
		fine(t, e, h.Table().Free(x))
		return true
	}
	_, to, e := h.Arena().Keep()
	fine(t, e, h.Table().Move(x, to))
	return true
}

// stale sees to it that a handle stands for nothing: each call refuses it, whatever else it is handed, beside zero
// values, and changes nothing.
func stale(t *testing.T, h *heap.Heap, x uint64) {
	t.Helper()
	was := picture(h, x)
	tells(t, line("Head", x), head(h.Head(x)), 0, 0, 0, api.ErrStale)
	for _, i := range []int{0, 1, -1, 4096, -1 << 63, 1<<63 - 1} {
		tells(t, line("Ref", x, i), one(h.Ref(x, i)), 0, api.ErrStale)
		tells(t, line("Word", x, i), one(h.Word(x, i)), 0, api.ErrStale)
		tells(t, line("SetWord", x, i), line(h.SetWord(x, i, 7)), api.ErrStale)
		for _, y := range append(h.Table().Live(), 0, x, 99) {
			tells(t, line("SetRef", x, i, y), line(h.SetRef(x, i, y)), api.ErrStale)
		}
	}
	if x != 0 {
		for i := range 16 {
			tells(t, line("SetRoot", i, x), line(h.SetRoot(i, x)), api.ErrStale)
		}
	}
	if picture(h, x) != was {
		t.Errorf("what was refused changed the heap:\n%s\nwas\n%s", picture(h, x), was)
	}
}
