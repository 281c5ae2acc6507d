package slide_test

import (
	"math"
	"math/rand"
	"slices"
	"testing"

	"tidemark/api"
)

// some is one of these things by chance, or nil.
func some(r *rand.Rand, l []*thing) *thing {
	if len(l) == 0 || r.Intn(6) == 0 {
		return nil
	}
	return l[r.Intn(len(l))]
}

// linkable are the things that others may link: in phase 2 those that are reached, or were made since Start.
func (o *other) linkable() []*thing {
	if o.phase != 2 {
		return o.there()
	}
	reached := o.reached()
	return slices.DeleteFunc(o.there(), func(x *thing) bool { return !reached[x] && !x.young })
}

// change is done by others, by chance: they make, link, let go and set words. These are what they may link.
func (p *pair) change(r *rand.Rand, these []*thing) {
	p.Helper()
	x, y := some(r, p.other.there()), some(r, these)
	switch n := r.Intn(10); {
	case n < 3:
		refs := r.Intn(4)
		made := p.make(1+r.Intn(255), refs, refs+r.Intn(3))
		if made != nil && r.Intn(3) > 0 {
			p.root(r.Intn(16), made)
		}
	case n < 4:
		p.root(r.Intn(16), y)
	case x == nil:
	case n < 9:
		p.link(x, r.Intn(4), y)
	default:
		p.word(x, r.Intn(3), r.Uint64()>>r.Intn(64))
	}
}

// collect asks the collector for something by chance.
func (p *pair) collect(r *rand.Rand) {
	p.Helper()
	switch n := r.Intn(40); {
	case n < 12:
		p.says("Start", text(p.c.Start()), p.other.start())
	case n < 39:
		units := r.Intn(6)
		p.says("Step", p.step(units), p.other.step(units))
	default:
		p.says("Full", p.full(), p.other.full())
	}
}

// act asks the collector for something by chance, or lets others change the heap, who may link these.
func (p *pair) act(r *rand.Rand, these []*thing) {
	p.Helper()
	if r.Intn(2) == 0 {
		p.collect(r)
	} else {
		p.change(r, these)
	}
	p.same()
}

// P11.1, P11.2: things done by chance, held against another hand: how all lies, and the graph, which is as it would be
// without collections.
func TestByChance(t *testing.T) {
	r := rand.New(rand.NewSource(11))
	rounds, moved, full, nodes := 0, 0, 0, 0
	for range 150 {
		p := paired(t, 20+r.Intn(150), 4+r.Intn(40))
		for range 250 {
			p.act(r, p.other.linkable())
			p.sameGraph()
			if !p.other.fits(3) {
				full++
			}
			nodes = max(nodes, len(p.heap.Graph().Nodes))
		}
		rounds, moved = rounds+p.c.Rounds(), moved+p.c.Moved()
	}
	if rounds < 1000 || moved < 1000 || full < 1000 || nodes < 15 {
		t.Errorf("%d rounds, %d objects moved, %d times there was no room, at most %d nodes", rounds, moved, full, nodes)
	}
}

// P11.1, R1: others that link in phase 2 what may be gone soon break what they reach, and no more: each unit is as ever.
func TestCareless(t *testing.T) {
	r := rand.New(rand.NewSource(12))
	lost := 0
	for range 60 {
		p := paired(t, 20+r.Intn(150), 4+r.Intn(40))
		for range 200 {
			p.act(r, p.other.there())
			if p.heap.Check() != api.OK {
				lost++
			}
		}
	}
	if lost < 100 {
		t.Errorf("%d times something was lost", lost)
	}
}

// shape tells, of n objects that hang together in some way, which of them the object i holds. All are reached from the
// object 0.
type shape struct {
	name  string
	holds func(n, i int) []int
}

func shapes() []shape {
	return []shape{
		{"a row", func(_, i int) []int { return []int{i + 1} }},
		{"a row that ends at place 0", func(n, i int) []int { return []int{(i + n - 1) % n} }},
		{"a ring of two ways", func(n, i int) []int { return []int{(i + 1) % n, (i + n - 1) % n} }},
		{"objects that hold themselves", func(_, i int) []int { return []int{i, i + 1, i} }},
		{"a tree", func(_, i int) []int { return []int{2*i + 1, 2*i + 2} }},
		{"many ways to each", func(n, i int) []int { return []int{i + 1, i * i % n, 7 * i % n, 0} }},
	}
}

// sizes are how many units steps may have.
func sizes() []int { return []int{1, 2, 3, 7, 100, math.MaxInt} }

// built is a pair with n objects of a shape, and ahead of each of them so many others that nothing reaches, and that hold
// what is reached.
func (s shape) built(t *testing.T, n, beside int) *pair {
	t.Helper()
	p := paired(t, 12*n*(1+beside)+100, 2*n*(1+beside)+100)
	var l, others []*thing
	for i := range n {
		for range beside {
			others = append(others, p.make(2, 1, 1+i%3))
		}
		l = append(l, p.make(1, 4, 4+i%2))
	}
	for i, x := range l {
		for k, y := range s.holds(n, i) {
			if y < n {
				p.link(x, k, l[y])
			}
		}
	}
	for k, x := range others {
		p.link(x, 0, l[k%n])
	}
	p.root(5, l[0])
	return p
}

// steps is how many steps of a size so many units take.
func steps(units, size int) int { return (units-1)/size + 1 }

// P11.2: a collection, nothing else being done, has one unit for each object that is reached, one for each object, and
// one more; whatever the shape, the steps' size, and how much is let go.
func TestHowManyUnits(t *testing.T) {
	for _, s := range shapes() {
		for _, n := range []int{1, 2, 3, 40} {
			for beside := range 3 {
				for _, size := range sizes() {
					p := s.built(t, n, beside)
					all := p.heap.Table().Count()
					reached, _ := p.heap.Live()
					p.says("how many are reached", text(reached, all), n, n*(1+beside))
					p.fine(p.c.Start())
					p.says(text("steps of", size, "units in", s.name), text(p.finish(size)), steps(reached, size)+steps(all+1, size))
					p.sameGraph()
					p.says("how many are left", text(p.heap.Table().Count()), n)
					p.unmarked()
				}
			}
		}
	}
}

// P11.2: of a collection in steps of one unit: each unit leaves the graph as it was, and all that is reached live; it
// ends within twice as many units as there are objects, and one more.
func TestEachUnit(t *testing.T) {
	for _, s := range shapes() {
		p := s.built(t, 20, 1)
		most := 2*p.heap.Table().Count() + 1
		for range 2 {
			p.says("Start", text(p.c.Start()), p.other.start())
			units := 0
			for ; p.c.Phase() > 0; units++ {
				p.says("Step(1)", p.step(1), p.other.step(1))
				p.same()
				p.sameGraph()
			}
			if units > most {
				t.Errorf("%s: %d units, want at most %d", s.name, units, most)
			}
		}
	}
}

// P11.2: collection behind collection, in steps of whatever size, with others that change the heap between the steps.
func TestOthersBetween(t *testing.T) {
	r := rand.New(rand.NewSource(112))
	for _, s := range shapes() {
		for _, size := range sizes() {
			p := s.built(t, 40, 1)
			for k := 0; p.c.Rounds() < 4 && k < 5000; k++ {
				for range r.Intn(3) {
					p.change(r, p.other.linkable())
				}
				if p.c.Phase() == 0 {
					p.says("Start", text(p.c.Start()), p.other.start())
				}
				p.says("Step", p.step(size), p.other.step(size))
				p.sameGraph()
				if k%10 == 0 {
					p.same()
				}
			}
			p.says("Rounds", text(p.c.Rounds()), 4)
			p.fullFollows()
		}
	}
}

// P11.2: Full, in whichever phase, with whatever done between: just what is reached is live then, in its order, from
// place 0 on.
func TestFullFollows(t *testing.T) {
	r := rand.New(rand.NewSource(113))
	for range 100 {
		p := shapes()[r.Intn(len(shapes()))].built(t, 1+r.Intn(30), r.Intn(3))
		for range 5 {
			if r.Intn(4) > 0 {
				p.says("Start", text(p.c.Start()), p.other.start())
			}
			for range r.Intn(20) {
				p.change(r, p.other.linkable())
				units := 1 + r.Intn(5)
				p.says("Step", p.step(units), p.other.step(units))
			}
			p.fullFollows()
			p.other.full()
			p.same()
		}
	}
}

// P11.2: a heap that is full of objects, every other one of them reached, in one row.
func TestGreat(t *testing.T) {
	w := empty(t, api.MaxWords, api.MaxHandles)
	last := uint64(0)
	for range api.MaxWords / 4 {
		w.object(1, 0)
		x := w.object(1, 0)
		w.hold(x, last)
		last = x
	}
	w.roots(last)
	_, e := w.heap.Make(1, 0, 0)
	w.says("Make", text(e), api.ErrFull)
	w.fine(w.c.Start())
	w.says("all but one unit of phase 1", w.step(api.MaxWords/4-1), false, 0, 1)
	w.says("the last one", w.step(9), false, 0, 1)
	w.says("all but one unit of phase 2", w.step(api.MaxWords/2), false, 0, 2)
	w.says("the last one", w.step(1), true, 0, 0)
	w.says("the collector", w.counts(), 0, 1, api.MaxWords/4)
	w.says("Top", text(w.heap.Arena().Top()), api.MaxWords/2)
	w.fullFollows()
}

// P11.2: objects as great as may be.
func TestWide(t *testing.T) {
	w := empty(t, 10*(api.MaxSize+1), 20)
	var l []uint64
	for i := range 10 {
		l = append(l, w.object(api.MaxSize, 0))
		w.hold(l[i], slices.Repeat(l, api.MaxSize/len(l))...)
	}
	w.roots(l[3], l[6])
	w.fullFollows()
	w.says("Top", text(w.heap.Arena().Top()), 7*(api.MaxSize+1))
}
