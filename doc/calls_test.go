package doc_test

import (
	"slices"
	"testing"

	"tidemark/api"
	"tidemark/doc"
	"tidemark/sample"
	"tidemark/value"
)

// P12.2: Copy: the same value, of other objects.
func TestCopy(t *testing.T) {
	w := empty(t, 60000, 9000)
	for _, v := range good() {
		x := w.built(v)
		was := w.heap.Table().Live()
		top := w.heap.Arena().Top()
		y := w.taken(doc.Copy(w.heap, x))
		want, n, k := drawn(v)
		w.says("the copy", w.tree(y), want)
		w.says("its words, its objects", text(w.heap.Arena().Top()-top, w.heap.Table().Count()-len(was)), n, k)
		if slices.Contains(was, y) {
			t.Errorf("%s: an old handle", sample.Short(v))
		}
		w.fine(w.heap.SetRoot(0, y))
		if objects, _ := w.heap.Live(); objects != k {
			t.Errorf("%s: of the copy %d objects are reached", sample.Short(v), objects)
		}
	}
}

// P12.2: a copy and what it was made of do not change one another.
func TestCopyApart(t *testing.T) {
	w := empty(t, 500, 90)
	x := w.built(val(t, `{"a":[1,2]}`))
	y := w.taken(doc.Copy(w.heap, x))
	l, _, _ := doc.Step(w.heap, x, "a")
	w.fine(w.heap.SetRef(l, 0, w.null()))
	w.reads("what was changed", x, val(t, `{"a":[null,2]}`))
	w.reads("its copy", y, val(t, `{"a":[1,2]}`))
}

// P12.2: Copy of objects that are held more than once has each as often.
func TestCopyShared(t *testing.T) {
	w := empty(t, 500, 90)
	x := w.times(4, w.list(w.name("a")))
	y := w.taken(doc.Copy(w.heap, x))
	want, n, k := drawn(val(t, `[["a"],["a"],["a"],["a"]]`))
	w.says("the copy", w.tree(y), want)
	w.fine(w.heap.SetRoot(0, y))
	objects, words := w.heap.Live()
	w.says("its objects and words", text(objects, words), k, n)
}

// P12.2: Copy is refused as Build is, where there is no room; Read's errors come first.
func TestCopyFull(t *testing.T) {
	v := val(t, `{"a":[1,"abcdefghi"],"b":{}}`)
	_, n, k := drawn(v)
	for words := range 3 {
		for slots := range 3 {
			w := empty(t, 2*n+words-1, 2*k+slots-1)
			x := w.built(v)
			if words == 0 || slots == 0 {
				w.same("Copy", func() { w.says("Copy", one(doc.Copy(w.heap, x)), 0, api.ErrFull) })
				continue
			}
			w.reads("the copy", w.taken(doc.Copy(w.heap, x)), v)
			w.says("words, objects", text(w.heap.Arena().Top(), w.heap.Table().Count()), 2*n, 2*k)
		}
	}
	w := empty(t, 3, 2)
	bad := w.object(2, nil, 2)
	w.null()
	w.says("Copy of what is no value", one(doc.Copy(w.heap, bad)), 0, api.ErrForm)
	w.says("Copy of nothing", one(doc.Copy(w.heap, 99)), 0, api.ErrStale)
}

// P12.2: Compare is value.Compare's answer.
func TestCompare(t *testing.T) {
	w := empty(t, 60000, 9000)
	l := good()
	for _, s := range []string{`{"a":2}`, `{"b":1}`, `{"a":1,"b":0}`, `[1]`, `[1,0]`, `[2]`, `"b"`, `"ab"`, `-1`, `-2`} {
		l = append(l, val(t, s))
	}
	var handles []uint64
	for _, v := range l {
		handles = append(handles, w.built(v))
	}
	seen := map[int]int{}
	for i, a := range l {
		for k, b := range l {
			if (i+k)%3 != 0 && i != k {
				continue
			}
			c, e := value.Compare(a, b)
			w.fine(e)
			seen[c]++
			w.says("Compare of "+sample.Short(a)+sample.Short(b), one(doc.Compare(w.heap, handles[i], handles[k])), c, api.OK)
		}
	}
	if len(seen) != 3 || seen[-1] < 100 || seen[0] < 100 || seen[1] < 100 {
		t.Errorf("answers: %v", seen)
	}
	w.says("of other objects", one(doc.Compare(w.heap, w.built(l[0]), handles[0])), 0, api.OK)
}

// P12.2: Compare tells Read's error of x ahead of that of y.
func TestCompareErrors(t *testing.T) {
	w := empty(t, 100, 30)
	null, form, gone := w.null(), w.object(7, nil), w.freed()
	w.same("Compare", func() {
		for _, c := range []struct {
			x, y uint64
			e    api.Errno
		}{
			{form, gone, api.ErrForm}, {gone, form, api.ErrStale}, {form, 0, api.ErrForm}, {0, form, api.ErrStale},
			{null, form, api.ErrForm}, {null, gone, api.ErrStale}, {form, null, api.ErrForm}, {gone, null, api.ErrStale},
			{form, form, api.ErrForm}, {gone, gone, api.ErrStale}, {0, 0, api.ErrStale},
		} {
			w.says(text("Compare", c.x, c.y), one(doc.Compare(w.heap, c.x, c.y)), 0, c.e)
		}
	})
}

// P12.2: Hash is value.Hash's answer.
func TestHash(t *testing.T) {
	w := empty(t, 60000, 9000)
	w.says("Hash of null", one(doc.Hash(w.heap, w.null())), uint64(12638152016183539244), api.OK)
	for _, v := range good() {
		want, e := value.Hash(v)
		w.fine(e)
		x := w.built(v)
		w.same(sample.Short(v), func() { w.says(sample.Short(v), one(doc.Hash(w.heap, x)), want, api.OK) })
	}
	w.says("Hash of nothing", one(doc.Hash(w.heap, w.freed())), 0, api.ErrStale)
	w.says("Hash of what is no value", one(doc.Hash(w.heap, w.object(2, nil, 2))), 0, api.ErrForm)
}
