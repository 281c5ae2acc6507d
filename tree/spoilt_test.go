package tree_test

import (
	"fmt"
	"math/rand"
	"testing"

	"tidemark/api"
	"tidemark/tree"
)

// R1: an object of the tag 20 that this package did not make: each call ends, and tells nothing beside an error.
func TestForeign(t *testing.T) {
	for refs := range 4 {
		for scalars := range 4 {
			for _, word := range []uint64{0, 1, 2, 6, 7, 1 << 20, 1<<63 - 1, 1 << 63, 1<<64 - 1} {
				w := bare(t, 9000, 900)
				w.tree = w.object(20, refs, scalars)
				for i := range scalars {
					w.fine(w.heap.SetWord(w.tree, i, word))
				}
				w.ends()
				for i := range refs {
					w.fine(w.heap.SetRef(w.tree, i, w.tree))
				}
				w.ends()
			}
		}
	}
}

// R1: nodes that hold themselves in place of the nodes below, the root or those below it, in a tree that says that it has
// as many levels, or entries, as one likes.
func TestRings(t *testing.T) {
	for _, n := range []int{40, 300} {
		for _, word := range []uint64{0, 1, 2, 3, 5, 6, 7, 8, 100, 1 << 20, 1<<20 + 1, 1 << 40, 1<<63 - 1, 1 << 63, 1<<64 - 1} {
			for i := range 4 {
				w, all := grown(t, rand.New(rand.NewSource(3)), n)
				root, e := w.heap.Ref(w.tree, 0)
				w.fine(e)
				for _, x := range all {
					if x != w.tree && (x != root || i < 2) {
						w.ring(x)
					}
				}
				w.fine(w.heap.SetWord(w.tree, i%2, word))
				w.ends()
			}
		}
	}
}

// ring makes an object hold itself in place of each one it holds that has refs.
func (w *world) ring(x uint64) {
	w.Helper()
	_, refs, _, e := w.heap.Head(x)
	w.fine(e)
	for i := range refs {
		y, e := w.heap.Ref(x, i)
		w.fine(e)
		if _, more, _, _ := w.heap.Head(y); more > 0 && y != w.tree {
			w.fine(w.heap.SetRef(x, i, x))
		}
	}
}

// R1, P13.2: nodes that have lost what they held from some place on: Check tells it, and entries are taken till none is
// left, or that is refused.
func TestCut(t *testing.T) {
	for _, n := range []int{1, 20, 60, 200} {
		_, all := grown(t, rand.New(rand.NewSource(4)), n)
		for _, x := range all {
			w, _ := grown(t, rand.New(rand.NewSource(4)), n)
			_, refs, _, e := w.heap.Head(x)
			w.fine(e)
			for cut := refs - 1; cut >= 0; cut -= 3 {
				was := w.picture()
				for i := cut; i < refs; i++ {
					w.fine(w.heap.SetRef(x, i, 0))
				}
				if w.picture() == was {
					continue
				}
				// The ref of a node's last entry alone may be lost.
				if w.check() == api.OK {
					w.asItTells()
					w.says("the entries", text(len(w.list)), n)
				}
				w.ends()
				for i := range n {
					w.takes(numbered(3, i))
				}
				w.ends()
				w, _ = grown(t, rand.New(rand.NewSource(4)), n)
			}
		}
	}
}

// P13.2: a tree that holds a node and says that it has no levels, and no entries; one whose leaf has an empty place ahead
// of an entry, or an entry without a key, with the count as it would be.
func TestCheckPlaces(t *testing.T) {
	w := planted(t, 900, 90, "a", "b", "c")
	leaf, e := w.heap.Ref(w.tree, 0)
	w.fine(e, w.heap.SetWord(w.tree, 0, 0), w.heap.SetWord(w.tree, 1, 0))
	w.says("Check without levels", text(w.check()), api.ErrForm)
	w.fine(w.heap.SetRef(w.tree, 0, 0))
	w.says("Check without a root", text(w.check()), api.OK)
	w.fine(w.heap.SetRef(w.tree, 0, leaf), w.heap.SetWord(w.tree, 1, 1), w.heap.SetWord(w.tree, 0, 2))
	key, e := w.heap.Ref(leaf, 2)
	w.fine(e, w.heap.SetRef(leaf, 2, 0), w.heap.SetRef(leaf, 3, 0))
	w.says("Check of an empty place", text(w.check()), api.ErrForm)
	w.fine(w.heap.SetRef(leaf, 2, key), w.heap.SetRef(leaf, 4, 0), w.heap.SetRef(leaf, 5, 0))
	w.says("Check of the first two", text(w.check()), api.OK)
	w.fine(w.heap.SetRef(leaf, 5, leaf))
	w.says("Check of an entry without a key", text(w.check()), api.ErrForm)
	w.ends()
}

// P13.2: a root that leads to one leaf alone: there is none beside it that it could be joined with.
func TestCheckOneBelow(t *testing.T) {
	w := empty(t, 9000, 90)
	for i := range 8 {
		w.put(numbered(3, i), w.tree)
	}
	leaf, e := w.heap.Ref(w.tree, 0)
	key, f := w.heap.Ref(leaf, 0)
	up := w.object(22, 32, 0)
	w.fine(e, f, w.heap.SetRef(up, 0, key), w.heap.SetRef(up, 1, leaf), w.heap.SetRef(w.tree, 0, up), w.heap.SetWord(w.tree, 1, 2))
	w.says("Check", text(w.check()), api.ErrForm)
	for i := range 8 {
		w.takes(numbered(3, i))
		w.ends()
	}
}

// other is a new object of another form that has the refs and scalars of x, as many as there is place for.
func (w *world) other(x uint64, tag, refs, scalars int) uint64 {
	w.Helper()
	y := w.object(tag, refs, scalars)
	for i := range refs {
		z, _ := w.heap.Ref(x, i)
		w.fine(w.heap.SetRef(y, i, z))
	}
	for i := range scalars {
		n, _ := w.heap.Word(x, i)
		w.fine(w.heap.SetWord(y, i, n))
	}
	return y
}

// P13.2: a node, a key, or a tree's own object in another form, with all that it would say.
func TestCheckForms(t *testing.T) {
	type form struct{ tag, refs, scalars int }
	for _, c := range []struct {
		form
		e api.Errno
	}{{form{21, 32, 0}, api.OK}, {form{22, 32, 0}, api.ErrForm}, {form{1, 32, 0}, api.ErrForm}, {form{21, 31, 0}, api.ErrForm}, {form{21, 6, 0}, api.ErrForm}, {form{21, 33, 0}, api.ErrForm}, {form{21, 32, 1}, api.ErrForm}} {
		w := planted(t, 9000, 90, "a", "b", "c")
		leaf, e := w.heap.Ref(w.tree, 0)
		w.fine(e, w.heap.SetRef(w.tree, 0, w.other(leaf, c.tag, c.refs, c.scalars)))
		w.says(text("a node", c.tag, c.refs, c.scalars), text(w.check()), c.e)
		w.ends()
	}
	for _, c := range []struct {
		form
		length uint64
		e      api.Errno
	}{{form{23, 0, 2}, 1, api.OK}, {form{22, 0, 2}, 1, api.ErrForm}, {form{4, 0, 2}, 1, api.ErrForm}, {form{23, 1, 2}, 1, api.ErrForm}, {form{23, 1, 1}, 1, api.ErrForm}, {form{23, 0, 3}, 1, api.ErrForm}, {form{23, 0, 1}, 1, api.ErrForm}, {form{23, 0, 0}, 1, api.ErrForm},
		{form{23, 0, 1}, 0, api.OK}, {form{23, 0, 2}, 0, api.ErrForm}, {form{23, 0, 3}, 9, api.OK}, {form{23, 0, 2}, 9, api.ErrForm}, {form{23, 0, 2049}, 16384, api.OK}, {form{23, 0, 2050}, 16385, api.ErrForm}, {form{23, 0, 2}, 1<<63 + 1, api.ErrForm}, {form{23, 0, 1}, 1<<64 - 7, api.ErrForm}} {
		w := planted(t, 9000, 90, "a", "b", "c")
		leaf, e := w.heap.Ref(w.tree, 0)
		key, f := w.heap.Ref(leaf, 0)
		other := w.other(key, c.tag, c.refs, c.scalars)
		w.fine(e, f, w.heap.SetRef(leaf, 0, other))
		w.heap.SetWord(other, 0, c.length)
		w.says(text("a key", c.tag, c.refs, c.scalars, c.length), text(w.check()), c.e)
		w.ends()
	}
	for _, c := range []struct {
		form
		e api.Errno
	}{{form{20, 1, 2}, api.OK}, {form{21, 1, 2}, api.ErrKind}, {form{20, 2, 2}, api.ErrForm}, {form{20, 1, 3}, api.ErrForm}, {form{20, 0, 2}, api.ErrForm}, {form{20, 1, 1}, api.ErrForm}} {
		w := empty(t, 9000, 90)
		w.tree = w.other(w.tree, c.tag, c.refs, c.scalars)
		w.says(text("a tree", c.tag, c.refs, c.scalars), text(w.check()), c.e)
		w.ends()
	}
}

// P13.2: no more entries are told than a heap could hold, of an object that this package did not make either.
func TestCountForeign(t *testing.T) {
	for _, word := range []uint64{1<<20 + 1, 1 << 40, 1<<63 - 1, 1 << 63, 1<<64 - 1} {
		w := empty(t, 900, 90)
		w.fine(w.heap.SetWord(w.tree, 0, word))
		w.says("Count", w.count(), 0, api.ErrForm)
	}
}

// ends sees to it that each call ends, that it tells nothing beside an error, and that the heap is sound then.
func (w *world) ends() {
	w.Helper()
	for _, k := range []string{"", "005", "0050", "150", "999", "\xff"} {
		for name, call := range calls() {
			if answer, e := call(w.heap, w.tree, []byte(k)); e != api.OK && answer != text(0, false) {
				w.Fatalf("%s: %s beside %v", name, answer, e)
			}
		}
	}
}

// grown is a world with a tree of n entries, by chance, and of its objects the handles.
func grown(t *testing.T, r *rand.Rand, n int) (*world, []uint64) {
	t.Helper()
	w := planted(t, 60000, 3000)
	for _, i := range r.Perm(n) {
		w.list.put(numbered(3, i), w.tree)
		w.puts(numbered(3, i), w.tree)
	}
	w.sound()
	seen := map[uint64]bool{}
	w.words(w.tree, seen)
	var all []uint64
	for _, x := range w.heap.Table().Live() {
		if seen[x] {
			all = append(all, x)
		}
	}
	return w, all
}

// spoil changes one ref or one scalar of one of these objects.
func (w *world) spoil(r *rand.Rand, all []uint64) {
	w.Helper()
	x, y := all[r.Intn(len(all))], all[r.Intn(len(all))]
	switch r.Intn(4) {
	case 0:
		x = w.tree
	case 1:
		if root, _ := w.heap.Ref(w.tree, 0); root != 0 {
			x = root
		}
	}
	_, refs, size, e := w.heap.Head(x)
	w.fine(e)
	if refs > 0 && r.Intn(3) > 0 {
		if r.Intn(3) == 0 {
			y = []uint64{0, w.tree, x}[r.Intn(3)]
		}
		// What the same node holds is the likeliest to be taken for the right thing.
		if z, _ := w.heap.Ref(x, r.Intn(refs)); r.Intn(2) == 0 {
			y = z
		}
		w.fine(w.heap.SetRef(x, r.Intn(refs), y))
		return
	}
	if refs < size {
		i := r.Intn(size - refs)
		was, _ := w.heap.Word(x, i)
		w.fine(w.heap.SetWord(x, i, []uint64{was + 1, was - 1, r.Uint64(), was ^ 1<<r.Intn(64), 0}[r.Intn(5)]))
	}
}

// P13.2: Check tells of a tree that was spoilt; if it lets it pass, the tree still tells what some sorted list tells. R1:
// each call ends in any case.
func TestSpoilt(t *testing.T) {
	passed, refused := 0, 0
	for seed := range 600 {
		r := rand.New(rand.NewSource(int64(seed)))
		w, all := grown(t, r, []int{1, 5, 17, 40, 200}[seed%5])
		for range 1 + r.Intn(2) {
			w.spoil(r, all)
		}
		if e := w.check(); e == api.OK {
			passed++
			w.asItTells()
			w.same()
			w.through()
			for i := range 30 {
				w.put(numbered(3, i*7%250), 0)
				w.take(numbered(3, i*13%250))
			}
			w.same()
			continue
		} else if e != api.ErrForm {
			t.Fatalf("Check: %v", e)
		}
		refused++
		w.ends()
		for i := range 60 {
			w.puts(fmt.Sprint(i), w.tree)
			w.takes(numbered(3, i*7%250))
		}
		w.ends()
	}
	if passed < 50 || refused < 300 {
		t.Errorf("%d passed, %d were refused", passed, refused)
	}
}

// asItTells makes the list what the tree tells by Seek, which must rise.
func (w *world) asItTells() {
	w.Helper()
	w.list = nil
	for k := ""; ; {
		b, x, ok, e := tree.Seek(w.heap, w.tree, []byte(k))
		w.fine(e)
		if !ok {
			return
		}
		if n := len(w.list); n > 0 && w.list[n-1].key >= string(b) {
			w.Fatalf("%q behind %q", b, w.list[n-1].key)
		}
		w.list = append(w.list, item{string(b), x})
		k = string(b) + "\x00"
	}
}

// P13.2: Check: the keys out of order, the count wrong.
func TestCheckSpoilt(t *testing.T) {
	r := rand.New(rand.NewSource(1))
	for _, n := range []int{1, 3, 30, 300} {
		w, all := grown(t, r, n)
		count := 0
		for _, x := range all {
			tag, refs, size, e := w.heap.Head(x)
			w.fine(e)
			for i := range size - refs {
				was, _ := w.heap.Word(x, i)
				for _, wrong := range []uint64{was + 1, was - 1, was ^ 1<<63, 0, ^uint64(0)} {
					// A key that is changed may be right where it stands, but not at both ends.
					if wrong == was || tag != 20 && wrong != 0 && wrong != ^uint64(0) {
						continue
					}
					w.fine(w.heap.SetWord(x, i, wrong))
					if w.check() != api.OK {
						count++
					} else if tag == 20 {
						t.Fatalf("%d entries: the word %d of a tree is %d", n, i, wrong)
					}
				}
				w.fine(w.heap.SetWord(x, i, was))
			}
		}
		w.sound()
		if count < 2*n {
			t.Errorf("%d entries: %d faults", n, count)
		}
	}
}

// P13.2: Check: keys exchanged, of any two objects that hold as many scalars.
func TestCheckOrder(t *testing.T) {
	r := rand.New(rand.NewSource(2))
	w, all := grown(t, r, 40)
	count := 0
	for _, x := range all {
		for _, y := range all {
			tag, refs, size, _ := w.heap.Head(x)
			other, _, _, _ := w.heap.Head(y)
			if x == y || tag != other || refs > 0 || size < 2 {
				continue
			}
			count++
			w.exchange(x, y, size)
			w.says("Check", text(w.check()), api.ErrForm)
			w.exchange(x, y, size)
		}
	}
	w.same()
	if count != 40*39 {
		t.Errorf("%d pairs of keys", count)
	}
}

// exchange exchanges the scalars of two objects.
func (w *world) exchange(x, y uint64, size int) {
	w.Helper()
	for i := range size {
		a, e := w.heap.Word(x, i)
		b, f := w.heap.Word(y, i)
		w.fine(e, f, w.heap.SetWord(x, i, b), w.heap.SetWord(y, i, a))
	}
}

// R1: a ref that was put, and whose object is gone since then, which no collection brings about that is asked for what it
// is made for: the other entries are told as they were.
func TestRefGone(t *testing.T) {
	for seed := range 20 {
		r := rand.New(rand.NewSource(int64(seed)))
		w := empty(t, 9000, 900)
		gone := w.object(1, 0, 0)
		for i := range 30 {
			w.put(numbered(2, 2*i), w.object(1, 0, 0))
		}
		w.put("31", gone)
		w.fine(w.heap.Table().Free(gone))
		for _, i := range r.Perm(50) {
			if k := numbered(2, i); k != "31" && r.Intn(2) == 0 {
				w.put(k, w.tree)
			} else if k != "31" {
				w.take(k)
			}
			x, ok, e := tree.Get(w.heap, w.tree, []byte("31"))
			if x != 0 && x != gone || !ok || e != api.OK {
				t.Fatalf("Get tells %d, %v, %v", x, ok, e)
			}
		}
		w.list.take("31")
		w.takes("31")
		w.same()
	}
}
