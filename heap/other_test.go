package heap_test

import (
	"fmt"
	"slices"

	"tidemark/api"
	"tidemark/heap"
)

// thing is an object by another hand: it holds things themselves, and knows no place.
type thing struct {
	name  uint64
	tag   int
	refs  []*thing
	words []uint64
	gone  bool
}

// other is a heap by another hand: all things that were ever made, the slots that were freed, the last at the end, and
// of each slot that was ever taken how many times it was.
type other struct {
	words, slots int
	things       []*thing
	freed, times []int
	roots        [16]*thing
	told         []string
	watched      bool
}

// there are the things that are not gone.
func (o *other) there() []*thing {
	return slices.DeleteFunc(slices.Clone(o.things), func(x *thing) bool { return x.gone })
}

// of is the thing of a live handle.
func (o *other) of(name uint64) *thing {
	for _, x := range o.there() {
		if x.name == name {
			return x
		}
	}
	return nil
}

// names are all handles that were ever told.
func (o *other) names() []uint64 {
	var l []uint64
	for _, x := range o.things {
		l = append(l, x.name)
	}
	return l
}

func (o *other) tell(what string, x *thing) {
	if o.watched && x != nil {
		o.told = append(o.told, line(what, x.name))
	}
}

// top is how many words the things take.
func (o *other) top() int {
	n := 0
	for _, x := range o.there() {
		n += 1 + len(x.refs) + len(x.words)
	}
	return n
}

func (o *other) make(tag, refs, size int) string {
	if tag < 1 || tag > 255 || size < 0 || size > 4096 || refs < 0 || refs > size {
		return line(0, api.ErrArg)
	}
	if o.top()+1+size > o.words || len(o.there()) == o.slots {
		return line(0, api.ErrFull)
	}
	slot := len(o.times)
	if n := len(o.freed); n > 0 {
		slot, o.freed = o.freed[n-1], o.freed[:n-1]
	} else {
		o.times = append(o.times, 0)
	}
	o.times[slot]++
	x := &thing{name: named(slot, o.times[slot]), tag: tag, refs: make([]*thing, refs), words: make([]uint64, size-refs)}
	o.things = append(o.things, x)
	o.tell("made", x)
	return line(x.name, api.OK)
}

func (o *other) setRef(name uint64, i int, held uint64) string {
	x, y := o.of(name), o.of(held)
	switch {
	case x == nil:
		return line(api.ErrStale)
	case i < 0 || i >= len(x.refs):
		return line(api.ErrArg)
	case held != 0 && y == nil:
		return line(api.ErrStale)
	}
	x.refs[i] = y
	o.tell("linked", y)
	return line(api.OK)
}

func (o *other) setWord(name uint64, i int, w uint64) string {
	x := o.of(name)
	switch {
	case x == nil:
		return line(api.ErrStale)
	case i < 0 || i >= len(x.words):
		return line(api.ErrArg)
	}
	x.words[i] = w
	return line(api.OK)
}

func (o *other) setRoot(i int, held uint64) string {
	y := o.of(held)
	switch {
	case i < 0 || i > 15:
		return line(api.ErrArg)
	case held != 0 && y == nil:
		return line(api.ErrStale)
	}
	o.roots[i] = y
	o.tell("linked", y)
	return line(api.OK)
}

// lose lets these things go, in the order in which they lie.
func (o *other) lose(all []*thing) {
	for _, x := range all {
		x.gone = true
		o.freed = append(o.freed, int(x.name&(1<<32-1))-1)
	}
}

// reached are the things that are reached: layer by layer, each the things that the layer ahead holds.
func (o *other) reached() []*thing {
	var all []*thing
	layer := o.roots[:]
	for len(layer) > 0 {
		var next []*thing
		for _, x := range layer {
			if x != nil && !x.gone && !slices.Contains(all, x) {
				all = append(all, x)
				next = append(next, x.refs...)
			}
		}
		layer = next
	}
	return all
}

// graph is the graph, the words that its nodes take, and whether something is held that is gone.
func (o *other) graph() (g heap.Graph, words int, lost bool) {
	all := o.reached()
	number := func(x *thing) int {
		lost = lost || x != nil && x.gone
		return slices.Index(all, x)
	}
	for _, x := range o.roots {
		g.Roots = append(g.Roots, number(x))
	}
	for _, x := range all {
		n := heap.Node{Tag: x.tag, Words: x.words}
		for _, y := range x.refs {
			n.Refs = append(n.Refs, number(y))
		}
		g.Nodes = append(g.Nodes, n)
		words += 1 + len(x.refs) + len(x.words)
	}
	return g, words, lost
}

// nameOf is the handle of a thing, live or not, or 0.
func nameOf(x *thing) uint64 {
	if x == nil {
		return 0
	}
	return x.name
}

// outside shows what the heap should tell those who go by handles.
func (o *other) outside(of ...uint64) string {
	g, words, lost := o.graph()
	check := api.OK
	if lost {
		check = api.ErrForm
	}
	s := fmt.Appendln(nil, g, line(len(g.Nodes), words), int(check))
	for i := -1; i < 18; i++ {
		if i < 0 || i > 15 {
			s = fmt.Appendln(s, "root", i, line(0, api.ErrArg))
		} else {
			s = fmt.Appendln(s, "root", i, line(nameOf(o.roots[i]), api.OK))
		}
	}
	for _, name := range of {
		s = append(s, o.show(name)...)
	}
	return string(s)
}

// show shows what the heap should tell of a handle.
func (o *other) show(name uint64) string {
	x, e, beside := o.of(name), api.OK, api.ErrArg
	if x == nil {
		x, e, beside = &thing{}, api.ErrStale, api.ErrStale
	}
	s := fmt.Appendln(nil, "object", name, line(x.tag, len(x.refs), len(x.refs)+len(x.words), e))
	s = fmt.Appendln(s, "ref", -1, line(0, beside))
	for i, y := range x.refs {
		s = fmt.Appendln(s, "ref", i, line(nameOf(y), e))
	}
	s = fmt.Appendln(s, "ref", len(x.refs), line(0, beside))
	s = fmt.Appendln(s, "word", -1, line(0, beside))
	for i, w := range x.words {
		s = fmt.Appendln(s, "word", i, line(w, e))
	}
	s = fmt.Appendln(s, "word", len(x.words), line(0, beside))
	return string(s)
}

// pair is a heap and the other hand's, which are told the same, with the heap's watcher.
type pair struct {
	heap    *heap.Heap
	other   *other
	watcher *watcher
}
