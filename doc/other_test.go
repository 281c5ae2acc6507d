package doc_test

import (
	"fmt"
	"math/rand"
	"testing"

	"tidemark/api"
	"tidemark/doc"
	"tidemark/sample"
	"tidemark/value"
)

// other reads objects by another hand, which calls itself: so many are left to be read, and whether one is no value's. What
// is not live is taken for a Null.
type other struct {
	w     *world
	left  int
	wrong bool
}

// seen tells whether x, and all that is reached from it, is live.
func (o *other) seen(x uint64) bool {
	all := map[uint64]int{x: 1}
	for waits := []uint64{x}; len(waits) > 0; waits = waits[1:] {
		if _, e := o.w.heap.Table().At(waits[0]); e != api.OK {
			return false
		}
		_, refs, _, _ := o.w.heap.Head(waits[0])
		for i := range refs {
			if y, _ := o.w.heap.Ref(waits[0], i); all[y] == 0 {
				all[y] = 1
				waits = append(waits, y)
			}
		}
	}
	return true
}

// value is the value of x, which stands so deep within others.
func (o *other) value(x uint64, depth int) api.Val {
	o.left--
	tag, refs, size, e := o.w.heap.Head(x)
	if o.left < 0 || depth > 8 {
		o.wrong = true
		return sample.Null()
	}
	if e != api.OK {
		return sample.Null()
	}
	var parts []api.Val
	for i := range refs {
		y, _ := o.w.heap.Ref(x, i)
		parts = append(parts, o.value(y, depth+1))
	}
	var scalars []uint64
	for i := range size - refs {
		s, _ := o.w.heap.Word(x, i)
		scalars = append(scalars, s)
	}
	v := api.Val{Kind: tag}
	switch shape := fmt.Sprint(refs, size-refs); {
	case tag == 1 && shape == "0 0":
	case (tag == 2 || tag == 3) && shape == "0 1":
		v.N = int64(scalars[0])
	case tag == 4 && refs == 0:
		v.S = o.text(scalars)
	case tag == 5 && size == refs:
		v.L = parts
	case tag == 6 && size == refs && refs%2 == 0:
		for i := 0; i < refs; i += 2 {
			o.wrong = o.wrong || parts[i].Kind != api.Text
			v.F = append(v.F, sample.Field(parts[i].S, parts[i+1]))
		}
	default:
		o.wrong = true
	}
	return v
}

// text is what scalars tell, by division.
func (o *other) text(l []uint64) string {
	if len(l) == 0 || l[0] > 5000 {
		o.wrong = true
		return ""
	}
	var b []byte
	for _, s := range l[1:] {
		for range 8 {
			b = append(b, byte(s%256))
			s /= 256
		}
	}
	n := int(l[0])
	if len(b) < n || len(b) >= n+8 {
		o.wrong = true
		return ""
	}
	for _, c := range b[n:] {
		o.wrong = o.wrong || c != 0
	}
	return string(b[:n])
}

// agrees sees to it that Read, and those that go by it, tell what the other hand tells; of several faults, any. It tells
// the error.
func (w *world) agrees(x uint64) api.Errno {
	w.Helper()
	o := &other{w: w, left: 3000}
	v := o.value(x, 0)
	stale := !o.seen(x)
	wrong := o.wrong || value.Good(v) != api.OK
	got, e := doc.Read(w.heap, x)
	switch {
	case !stale && !wrong:
		w.says("Read", told(got, e), told(v, api.OK))
	case !wrong:
		w.says("Read of what is not live", told(got, e), "error", api.ErrStale)
	case !stale:
		w.says("Read of what is no value", told(got, e), "error", api.ErrForm)
	case e != api.ErrStale && e != api.ErrForm:
		w.Errorf("Read of what is not live and no value: %s", told(got, e))
	}
	hash, f := doc.Hash(w.heap, x)
	want, _ := value.Hash(got)
	w.says("Hash", text(hash, f), want, e)
	if e == api.OK {
		w.stepsAgree(x, got)
	}
	return e
}

// spoilt does something to objects by chance, such as others may do who hold the heap.
func (w *world) spoilt(r *rand.Rand) {
	w.Helper()
	live := append(w.heap.Table().Live(), 0)
	x, y := live[r.Intn(len(live))], live[r.Intn(len(live))]
	_, refs, size, e := w.heap.Head(x)
	switch n := r.Intn(20); {
	case e != api.OK:
	case n < 8 && refs > 0:
		w.heap.SetRef(x, r.Intn(refs), y)
	case n < 14 && size > refs:
		words := []uint64{0, 1, 2, 3, 7, 8, 9, 16, 255, 97, 97 + 256, 1 << 63, 1<<64 - 1, r.Uint64()}
		w.heap.SetWord(x, r.Intn(size-refs), words[r.Intn(len(words))])
	case n < 17:
		w.heap.Table().Free(x)
	default:
		tag, refs := 1+r.Intn(7), r.Intn(4)
		made, e := w.heap.Make(tag, refs, refs+r.Intn(2)*r.Intn(3))
		w.fine(e)
		for i := range refs {
			w.heap.SetRef(made, i, live[r.Intn(len(live))])
		}
	}
}

// P12.1, P12.2: objects that were built, and then spoilt by chance, held against another hand.
func TestReadByChance(t *testing.T) {
	r := rand.New(rand.NewSource(2))
	m := maker(r)
	answers := map[api.Errno]int{}
	for range 1500 {
		w := empty(t, 60000, 9000)
		for range 1 + r.Intn(3) {
			w.built(m.Value(r.Intn(4)))
		}
		for range 1 + r.Intn(4) {
			w.spoilt(r)
			for _, x := range w.heap.Table().Live() {
				answers[w.agrees(x)]++
			}
		}
	}
	if len(answers) != 3 || answers[api.OK] < 1000 || answers[api.ErrForm] < 1000 || answers[api.ErrStale] < 500 {
		t.Errorf("answers: %v", answers)
	}
}
