package slide_test

import (
	"math"
	"slices"
	"strconv"
	"testing"

	"tidemark/api"
	"tidemark/heap"
)

// thing is an object by another hand, which knows how it lies. What it holds, its twin knows.
type thing struct {
	name, twin    uint64
	room, at      int // how many words it takes, and where
	marked, young bool
	gone          bool
}

// other is a heap with a collector by another hand: things ahead of the gap and behind it, and a heap in which each has
// a twin and that is never collected. While the gap is closed all things are ahead of it.
type other struct {
	twins         *heap.Heap
	words, slots  int
	things        []*thing // all that were ever made
	byTwin        map[uint64]*thing
	ahead, behind []*thing
	pile          []*thing
	top, phase    int
	rounds, moved int
}

// there are the things that are not gone.
func (o *other) there() []*thing {
	return append(slices.Clone(o.ahead), o.behind...)
}

// low is the place behind the things ahead of the gap.
func (o *other) low() int {
	n := 0
	for _, x := range o.ahead {
		n += x.room
	}
	return n
}

// held are the things that a thing holds; nil for a ref that is 0.
func (o *other) held(x *thing) []*thing {
	var l []*thing
	_, refs, _, _ := o.twins.Head(x.twin)
	for i := range refs {
		y, _ := o.twins.Ref(x.twin, i)
		l = append(l, o.byTwin[y])
	}
	return l
}

// rooted are the things that roots hold; nil for a root that is 0.
func (o *other) rooted() []*thing {
	var l []*thing
	for i := range 16 {
		y, _ := o.twins.Root(i)
		l = append(l, o.byTwin[y])
	}
	return l
}

// reached are the things that are reached.
func (o *other) reached() map[*thing]bool {
	all := map[*thing]bool{}
	var meet func(l []*thing)
	meet = func(l []*thing) {
		for _, x := range l {
			if x != nil && !all[x] {
				all[x] = true
				meet(o.held(x))
			}
		}
	}
	meet(o.rooted())
	return all
}

// see marks a thing and puts it on the pile, if it may.
func (o *other) see(l ...*thing) {
	for _, x := range l {
		if x != nil && !x.gone && !x.marked {
			x.marked = true
			o.pile = append(o.pile, x)
		}
	}
}

// linked is told what was linked.
func (o *other) linked(x *thing) {
	if o.phase == 1 {
		o.see(x)
	}
}

// fits tells whether there is room for a thing.
func (o *other) fits(room int) bool {
	return o.top+room <= o.words && len(o.there()) < o.slots
}

// made is told of a new thing, which lies at the top.
func (o *other) made(x *thing) {
	x.at, x.marked, x.young = o.top, o.phase > 0, o.phase > 0
	o.top += x.room
	o.things = append(o.things, x)
	o.byTwin[x.twin] = x
	if o.phase == 2 {
		o.behind = append(o.behind, x)
	} else {
		o.ahead = append(o.ahead, x)
	}
}

func (o *other) start() string {
	if o.phase > 0 {
		return text(api.ErrState)
	}
	o.phase, o.pile = 1, nil
	for _, x := range o.there() {
		x.marked, x.young = false, false
	}
	o.see(o.rooted()...)
	return text(api.OK)
}

func (o *other) step(n int) string {
	switch {
	case o.phase == 0:
		return text(false, int(api.ErrState), 0)
	case n < 1:
		return text(false, int(api.ErrArg), o.phase)
	case o.phase == 1 && len(o.pile) > 0:
		for ; n > 0 && len(o.pile) > 0; n-- {
			x := o.pile[len(o.pile)-1]
			o.pile = o.pile[:len(o.pile)-1]
			o.see(o.held(x)...)
		}
		return text(false, 0, 1)
	case o.phase == 1:
		o.phase, o.ahead, o.behind = 2, nil, o.ahead
	}
	for ; n > 0 && o.phase == 2; n-- {
		o.slide()
	}
	return text(o.phase == 0, 0, o.phase)
}

// slide is one unit of phase 2.
func (o *other) slide() {
	if len(o.behind) == 0 {
		o.top, o.phase, o.rounds = o.low(), 0, o.rounds+1
		return
	}
	x := o.behind[0]
	o.behind = o.behind[1:]
	if !x.marked {
		x.gone = true
		return
	}
	if to := o.low(); to != x.at {
		x.at = to
		o.moved++
	}
	x.marked = false
	o.ahead = append(o.ahead, x)
}

func (o *other) finish() {
	for o.phase > 0 {
		o.step(math.MaxInt)
	}
}

func (o *other) full() string {
	was := o.top
	o.finish()
	o.start()
	o.finish()
	return text(was-o.top, 0, 0)
}

// lies shows where all things are, as lies of a world does.
func (o *other) lies() string {
	var l []any
	for _, x := range o.things {
		switch {
		case x.gone:
			l = append(l, "-")
		case x.marked:
			l = append(l, strconv.Itoa(x.at)+"+")
		default:
			l = append(l, x.at)
		}
	}
	if o.phase != 2 {
		return text(text(l...), "|", o.top)
	}
	high := o.top
	if len(o.behind) > 0 {
		high = o.behind[0].at
	}
	return text(text(l...), "|", o.low(), high, o.top)
}

// pair is a world, and another hand's, which are told the same.
type pair struct {
	*world
	other *other
}

// paired is a world without objects, and another hand's.
func paired(t *testing.T, words, slots int) *pair {
	t.Helper()
	w := empty(t, words, slots)
	twins, e := heap.New(1<<16, 1<<14)
	w.fine(e)
	return &pair{w, &other{twins: twins, words: words, slots: slots, byTwin: map[uint64]*thing{}}}
}

// make makes an object, if there is room.
func (p *pair) make(tag, refs, size int) *thing {
	p.Helper()
	name, e := p.heap.Make(tag, refs, size)
	if !p.other.fits(1 + size) {
		p.says("Make", text(name, e), 0, api.ErrFull)
		return nil
	}
	twin, f := p.other.twins.Make(tag, refs, size)
	p.fine(e, f)
	x := &thing{name: name, twin: twin, room: 1 + size}
	p.other.made(x)
	return x
}

// handles are those of a thing and of its twin; 0 for nil.
func handles(x *thing) (name, twin uint64) {
	if x == nil {
		return 0, 0
	}
	return x.name, x.twin
}

// link makes x hold y, by a ref that it may not have.
func (p *pair) link(x *thing, i int, y *thing) {
	p.Helper()
	name, twin := handles(y)
	e := p.other.twins.SetRef(x.twin, i, twin)
	p.says("SetRef", text(p.heap.SetRef(x.name, i, name)), e)
	if e == api.OK {
		p.other.linked(y)
	}
}

// root makes a root hold y.
func (p *pair) root(i int, y *thing) {
	p.Helper()
	name, twin := handles(y)
	p.fine(p.heap.SetRoot(i, name), p.other.twins.SetRoot(i, twin))
	p.other.linked(y)
}

// word makes a scalar, which x may not have, w.
func (p *pair) word(x *thing, i int, w uint64) {
	p.Helper()
	p.says("SetWord", text(p.heap.SetWord(x.name, i, w)), p.other.twins.SetWord(x.twin, i, w))
}

// same sees to it that both lie in the same way, and that each object that is there is as its twin.
func (p *pair) same() {
	p.Helper()
	o := p.other
	var names []uint64
	for _, x := range o.things {
		names = append(names, x.name)
	}
	p.says("the collector", p.counts(), o.phase, o.rounds, o.moved)
	p.says("how it lies", p.lies(names...), o.lies())
	p.says("Count", text(p.heap.Table().Count()), len(o.there()))
	for _, x := range o.there() {
		p.says("Head", text(p.heap.Head(x.name)), text(o.twins.Head(x.twin)))
		for i, y := range o.held(x) {
			name, _ := handles(y)
			p.says("Ref", text(p.heap.Ref(x.name, i)), name, api.OK)
		}
		for i := range x.room {
			p.says("Word", text(p.heap.Word(x.name, i)), text(o.twins.Word(x.twin, i)))
		}
	}
	if p.Failed() {
		p.FailNow()
	}
}

// sameGraph sees to it that the graph is as it would be without collections, and all that is reached is live.
func (p *pair) sameGraph() {
	p.Helper()
	p.fine(p.heap.Check())
	p.says("Graph", text(p.heap.Graph()), p.other.twins.Graph())
	if p.Failed() {
		p.FailNow()
	}
}
