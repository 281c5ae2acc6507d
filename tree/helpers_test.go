package tree_test

import (
	"fmt"
	"slices"
	"strings"
	"testing"

	"tidemark/api"
	"tidemark/heap"
	"tidemark/sample"
	"tidemark/slide"
	"tidemark/tree"
)

// world is a heap with a tree, in a test, and the list that tells what the tree should tell.
type world struct {
	*testing.T
	heap *heap.Heap
	c    *slide.Collector
	tree uint64
	list list
}

// bare is a world whose heap has no objects.
func bare(t *testing.T, words, slots int) *world {
	t.Helper()
	h, e := heap.New(words, slots)
	w := &world{T: t, heap: h, c: slide.New(h)}
	w.fine(e)
	return w
}

// empty is a world with a tree without entries, which the root 0 holds.
func empty(t *testing.T, words, slots int) *world {
	t.Helper()
	w := bare(t, words, slots)
	x, e := tree.Make(w.heap)
	w.tree = x
	w.fine(e, w.heap.SetRoot(0, x))
	return w
}

// planted is a world with a tree of these keys, put one behind the other; the refs of some are 0, of others what the
// root 1 holds, or the tree itself.
func planted(t *testing.T, words, slots int, keys ...string) *world {
	t.Helper()
	w := empty(t, words, slots)
	refs := []uint64{w.held(), 0, w.tree}
	for i, k := range keys {
		w.put(k, refs[i%3])
	}
	return w
}

// fine sees to it that calls were not refused.
func (w *world) fine(answers ...api.Errno) {
	w.Helper()
	if i := slices.IndexFunc(answers, func(e api.Errno) bool { return e != api.OK }); i >= 0 {
		w.Fatalf("call %d: %v", i, answers[i])
	}
}

// text shows answers, one behind the other; an Errno as its number, bytes as a text.
func text(answers ...any) string {
	for i, x := range answers {
		switch y := x.(type) {
		case api.Errno:
			answers[i] = int(y)
		case []byte:
			answers[i] = fmt.Sprintf("%q", y)
		case string:
			answers[i] = fmt.Sprintf("%q", y)
		}
	}
	return strings.TrimSuffix(fmt.Sprintln(answers...), "\n")
}

// says sees to it that what was answered, or is seen, is what it should be.
func (w *world) says(what, got string, want ...any) {
	w.Helper()
	if s := text(want...); s != got {
		w.Fatalf("%s: %s, want %s", sample.Cut(what), sample.Cut(got), sample.Cut(s))
	}
}

// object is the handle of a new object, of so many refs and scalars.
func (w *world) object(tag, refs, scalars int) uint64 {
	w.Helper()
	x, e := w.heap.Make(tag, refs, refs+scalars)
	w.fine(e)
	return x
}

// held is the handle of a new object that the root 1 holds.
func (w *world) held() uint64 {
	w.Helper()
	x := w.object(1, 0, 0)
	w.fine(w.heap.SetRoot(1, x))
	return x
}

// full does a full collection.
func (w *world) full() {
	w.Helper()
	_, e := w.c.Full()
	w.fine(e)
}

// one, two and four show what calls answer.
func one[T any](x T, e api.Errno) string                   { return text(x, e) }
func two(x uint64, ok bool, e api.Errno) string            { return text(x, ok, e) }
func four(k []byte, x uint64, ok bool, e api.Errno) string { return text(k, x, ok, e) }
func (w *world) get(k string) string                       { return two(tree.Get(w.heap, w.tree, []byte(k))) }
func (w *world) seek(k string) string                      { return four(tree.Seek(w.heap, w.tree, []byte(k))) }
func (w *world) last(k string) string                      { return four(tree.Last(w.heap, w.tree, []byte(k))) }
func (w *world) count() string                             { return one(tree.Count(w.heap, w.tree)) }
func (w *world) check() api.Errno                          { return tree.Check(w.heap, w.tree) }
func (w *world) puts(k string, x uint64) (uint64, bool, api.Errno) {
	return tree.Put(w.heap, w.tree, []byte(k), x)
}
func (w *world) takes(k string) (uint64, bool, api.Errno) {
	return tree.Take(w.heap, w.tree, []byte(k))
}

// put puts an entry into the tree and into the list, which tell the same, and sees to it that the tree is sound.
func (w *world) put(k string, x uint64) {
	w.Helper()
	old, had := w.list.put(k, x)
	w.says("Put of "+k, two(w.puts(k, x)), old, had, api.OK)
	w.sound()
}

// take takes an entry out of both.
func (w *world) take(k string) {
	w.Helper()
	old, had := w.list.take(k)
	w.says("Take of "+k, two(w.takes(k)), old, had, api.OK)
	w.sound()
}

// sound sees to it that the count is right, and that Check lets the tree pass.
func (w *world) sound() {
	w.Helper()
	w.says("Count, Check", w.count()+" "+text(w.check()), len(w.list), api.OK, api.OK)
}

// looks sees to it that at these keys the tree tells what the list tells.
func (w *world) looks(keys ...string) {
	w.Helper()
	for _, k := range keys {
		x, ok := w.list.get(k)
		w.says("Get of "+k, w.get(k), x, ok, api.OK)
		item, ok := w.list.seek(k)
		w.says("Seek of "+k, w.seek(k), item.key, item.x, ok, api.OK)
		item, ok = w.list.last(k)
		w.says("Last of "+k, w.last(k), item.key, item.x, ok, api.OK)
	}
}

// same sees to it that the tree tells all that the list tells, at each key and beside it, and nothing else.
func (w *world) same() {
	w.Helper()
	w.sound()
	w.looks("", "\x00", strings.Repeat("\xff", longest))
	for _, x := range w.list {
		w.looks(beside(x.key)...)
	}
}

// beside are a key, the next one above it, and some that are near it.
func beside(k string) []string {
	l := []string{k}
	if len(k) < longest {
		l = append(l, k+"\x00", k+"\xff")
	}
	if k == "" {
		return l
	}
	short, b := k[:len(k)-1], k[len(k)-1]
	return append(l, short, short+string([]byte{b - 1}), short+string([]byte{b + 1}))
}

// longest is how many bytes a key may have.
const longest = 16384

// picture shows all that a heap tells, how it lies too.
func (w *world) picture() string {
	a, t := w.heap.Arena(), w.heap.Table()
	low, high, open := a.Gap()
	s := fmt.Appendln(nil, a.Words(), a.Top(), low, high, open, t.Slots(), t.Count(), t.Live(), w.heap.Graph())
	for at := a.First(); at < a.Top(); at, _ = a.Next(at) {
		head, _ := a.Head(at)
		s = fmt.Append(s, at, head)
		for i := range head.Size {
			word, _ := a.Get(at, i)
			s = fmt.Append(s, " ", word)
		}
	}
	return string(s)
}

// still sees to it that what is done does not change the heap.
func (w *world) still(what string, do func()) {
	w.Helper()
	was := w.picture()
	do()
	if w.picture() != was {
		w.Fatalf("%s: the heap is changed", sample.Cut(what))
	}
}

// numbered is a key of so many digits.
func numbered(digits, n int) string { return fmt.Sprintf("%0*d", digits, n) }
