package doc_test

import (
	"math/rand"
	"testing"

	"tidemark/api"
	"tidemark/doc"
	"tidemark/sample"
	"tidemark/slide"
)

// P12.3: values that are reached are there after full collections, at their handles; others are gone, word by word.
func TestAfterFull(t *testing.T) {
	w := empty(t, 60000, 9000)
	c := slide.New(w.heap)
	var kept []uint64
	lost, words, objects := []uint64{}, 1, 1
	all := w.times(len(good()), 0)
	w.fine(w.heap.SetRoot(2, all))
	for i, v := range good() {
		lost = append(lost, w.built(v))
		kept = append(kept, w.built(v))
		w.fine(w.heap.SetRef(all, i, kept[i]))
		_, n, k := drawn(v)
		words, objects = words+n+1, objects+k
	}
	for range 3 {
		_, e := c.Full()
		w.fine(e, w.heap.Check())
		w.says("words, objects", text(w.heap.Arena().Top(), w.heap.Table().Count()), words, objects)
		for i, v := range good() {
			w.reads("what is reached", kept[i], v)
			w.says("what is not", w.read(lost[i]), "error", api.ErrStale)
		}
	}
}

// P12.3: a value that is built, and held, whatever a collection has come to.
func TestBuiltBetweenSteps(t *testing.T) {
	v, u := val(t, `{"a":[1,{"b":"abcdefghi"}],"c":true}`), val(t, `[[],"x",{"id":-5}]`)
	for done := range 60 {
		for wait := range 4 {
			w := empty(t, 200, 90)
			c := slide.New(w.heap)
			w.built(u)
			x := w.built(v)
			w.built(u)
			w.fine(w.heap.SetRoot(0, x), c.Start())
			steps(c, done)
			y := w.built(u)
			z := w.taken(doc.Copy(w.heap, x))
			if c.Phase() != 0 {
				steps(c, wait)
			}
			w.reads("what was reached", x, v)
			w.fine(w.heap.SetRoot(1, y), w.heap.SetRoot(2, z))
			steps(c, 1000)
			w.says("the phase", text(c.Phase()), 0)
			w.three(x, y, z, v, u)
			_, e := c.Full()
			w.fine(e, w.heap.Check())
			w.three(x, y, z, v, u)
		}
	}
}

// three sees to it that x is v, y what was built of u, and z what was copied of x.
func (w *world) three(x, y, z uint64, v, u api.Val) {
	w.Helper()
	w.reads("what was reached", x, v)
	w.reads("what was built", y, u)
	w.reads("what was copied", z, v)
}

// steps does so many units, one by one, or fewer, if the collection is over.
func steps(c *slide.Collector, n int) {
	for range n {
		if over, _ := c.Step(1); over {
			return
		}
	}
}

// kept is a world whose roots hold values, which it knows by itself.
type kept struct {
	*world
	c      *slide.Collector
	values [16]api.Val
	// What was built since the collection at work began, and is held by nothing.
	young map[uint64]api.Val
}

// sees sees to it that all values are there.
func (k *kept) sees() {
	k.Helper()
	for i, v := range k.values {
		x, e := k.heap.Root(i)
		k.fine(e)
		if x == 0 {
			continue
		}
		k.reads("a root", x, v)
	}
	for x, v := range k.young {
		k.reads("what is young", x, v)
	}
	k.fine(k.heap.Check())
}

// holds makes a root hold a value.
func (k *kept) holds(i int, x uint64, v api.Val) {
	k.Helper()
	k.fine(k.heap.SetRoot(i, x))
	k.values[i] = v
}

// makes builds v, or copies it, and sees to it that this takes just so many words and slots, and is refused just if there
// are fewer.
func (k *kept) makes(v api.Val, do func() (uint64, api.Errno)) (uint64, bool) {
	k.Helper()
	a, t := k.heap.Arena(), k.heap.Table()
	words, objects, e := doc.Words(v)
	k.fine(e)
	free, slots := a.Free(), t.Slots()-t.Count()
	x, e := do()
	if free < words || slots < objects {
		k.says("no room", text(x, e, a.Free(), t.Slots()-t.Count()), 0, api.ErrFull, free, slots)
		return 0, false
	}
	k.says("room", text(e, a.Free(), t.Slots()-t.Count()), api.OK, free-words, slots-objects)
	if k.c.Phase() != 0 {
		k.young[x] = v
	}
	return x, true
}

// change is done by chance: values are built, copied, held and let go, and parts of them.
func (k *kept) change(r *rand.Rand, m sample.Maker) {
	k.Helper()
	i, to := r.Intn(16), r.Intn(16)
	x, e := k.heap.Root(i)
	k.fine(e)
	switch n := r.Intn(10); {
	case n < 4:
		v := m.Value(r.Intn(4))
		if y, ok := k.makes(v, func() (uint64, api.Errno) { return doc.Build(k.heap, v) }); ok && n < 3 {
			k.holds(to, y, v)
		}
	case n < 6 && x != 0:
		if y, ok := k.makes(k.values[i], func() (uint64, api.Errno) { return doc.Copy(k.heap, x) }); ok {
			k.holds(to, y, k.values[i])
		}
	case n < 8 && x != 0:
		for _, s := range []string{"0", "1", "a", "b", "id"} {
			if y, ok, _ := doc.Step(k.heap, x, s); ok {
				v, e := doc.Read(k.heap, y)
				k.fine(e)
				k.holds(to, y, v)
			}
		}
	case n == 8:
		k.holds(i, 0, api.Val{})
	}
}

// collect asks the collector for something by chance.
func (k *kept) collect(r *rand.Rand) {
	k.Helper()
	was := k.c.Rounds()
	switch n := r.Intn(20); {
	case n < 4:
		k.c.Start()
	case n < 19:
		k.c.Step(1 + r.Intn(30))
	default:
		_, e := k.c.Full()
		k.fine(e)
		_, words := k.heap.Live()
		k.says("the top", text(k.heap.Arena().Top()), words)
	}
	if k.c.Rounds() != was {
		clear(k.young)
	}
}

// P12.3: Read of Build is the value, also after collections, in steps and full, while it is reached; Build takes just so
// many words as Words tells.
func TestThroughCollections(t *testing.T) {
	r := rand.New(rand.NewSource(3))
	m := maker(r)
	rounds, moved := 0, 0
	for range 30 {
		w := empty(t, 100+r.Intn(800), 40+r.Intn(200))
		k := &kept{world: w, c: slide.New(w.heap), young: map[uint64]api.Val{}}
		for range 300 {
			if r.Intn(2) == 0 {
				k.change(r, m)
			} else {
				k.collect(r)
			}
			k.sees()
		}
		rounds, moved = rounds+k.c.Rounds(), moved+k.c.Moved()
	}
	if rounds < 500 || moved < 5000 {
		t.Errorf("%d rounds, %d objects moved", rounds, moved)
	}
}
