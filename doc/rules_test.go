package doc_test

import (
	"math/rand"
	"testing"

	"tidemark/api"
	"tidemark/doc"
	"tidemark/heap"
	"tidemark/sample"
)

// R1, R2: a heap that has no room, and handles of all kinds.
func TestNoRoom(t *testing.T) {
	for _, h := range []*heap.Heap{nil, {}} {
		w := &world{t, h}
		for _, v := range good() {
			w.says("Build", one(doc.Build(h, v)), 0, api.ErrFull)
		}
		for _, f := range sample.Bad() {
			w.says("Build", one(doc.Build(h, f.V)), 0, f.E)
		}
		for _, n := range sample.Numbers(1<<32+1, 5) {
			x := uint64(n)
			w.says("Read", w.read(x), "error", api.ErrStale)
			w.says("Copy", one(doc.Copy(h, x)), 0, api.ErrStale)
			w.says("Compare", one(doc.Compare(h, x, x)), 0, api.ErrStale)
			w.says("Hash", one(doc.Hash(h, x)), 0, api.ErrStale)
			w.says("Step", w.steps(x, "a"), 0, false, api.ErrStale)
		}
	}
}

// R1, R2: handles of all kinds, in a heap that has objects.
func TestAnyHandles(t *testing.T) {
	w := empty(t, 500, 90)
	first := w.built(val(t, `{"a":[1]}`))
	for _, n := range sample.Numbers(1<<32, 1<<33, 90, 91) {
		x := uint64(n)
		_, e := w.heap.Table().At(x)
		v, f := doc.Read(w.heap, x)
		w.says(text("Read", x), text(f), e)
		if e != api.OK && sample.Show(v) != sample.Show(api.Val{}) {
			t.Errorf("Read(%d): %s beside an error", x, sample.Short(v))
		}
		for _, s := range stepsTried() {
			y, ok, f := doc.Step(w.heap, x, s)
			w.says(text("Step", x, s), text(f, ok || y == 0), e, true)
		}
	}
	w.reads("the value", first, val(t, `{"a":[1]}`))
}

// R1: a live handle whose slot's number is the place of no object, which the table alone can bring about: it is live, and
// no value's.
func TestNoObject(t *testing.T) {
	for _, at := range []int{1, 3, 90, 99, 100, 1 << 62} {
		w := empty(t, 100, 20)
		x, a := w.built(val(t, `[7]`)), w.name("a")
		y, e := w.heap.Table().Make(at)
		w.fine(e)
		l, d, n := w.list(y, x), w.fields(a, y), w.fields(y, a)
		for _, z := range []uint64{y, l, d, n} {
			w.refuses("no object", z, api.ErrForm)
		}
		w.says("Step from it", w.steps(y, "0"), 0, false, api.OK)
		w.says("Step to it in a List", w.steps(l, "0"), 0, false, api.OK)
		w.says("Step to it in a Doc", w.steps(d, "a"), 0, false, api.OK)
		w.says("Step by it", w.steps(n, "a"), 0, false, api.OK)
		w.says("Step to another", w.steps(l, "1"), x, true, api.OK)
	}
}

// R5: heaps that were told the same tell the same, whatever others were told between.
func TestHeapsApart(t *testing.T) {
	act := func(w *world, r *rand.Rand) string {
		v := maker(r).Value(3)
		x, e := doc.Build(w.heap, v)
		y, f := doc.Copy(w.heap, x)
		c, g := doc.Compare(w.heap, x, y)
		return text(x, e, y, f, c, g, w.read(y), w.steps(x, "a"), w.steps(y, "0"))
	}
	r, s, by := rand.New(rand.NewSource(5)), rand.New(rand.NewSource(5)), rand.New(rand.NewSource(6))
	a, b, between := empty(t, 6000, 900), empty(t, 6000, 900), empty(t, 9000, 900)
	var told []string
	for range 200 {
		told = append(told, act(a, r))
		act(between, by)
	}
	for i := range told {
		b.says("what they tell", act(b, s), told[i])
	}
	a.says("how they lie", a.picture(), b.picture())
}
