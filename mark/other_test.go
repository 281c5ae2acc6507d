package mark_test

import (
	"slices"

	"tidemark/api"
	"tidemark/heap"
	"tidemark/mark"
)

// thing is an object by another hand: it holds things themselves.
type thing struct {
	name   uint64
	refs   []*thing
	marked bool
	puts   int // how often it was put on the stack since Start
}

// pile is a stack by another hand: each part lies on the one that was put there ahead of it.
type pile struct {
	top   *thing
	below *pile
}

// height is how many things lie on one another.
func (p *pile) height() int {
	n := 0
	for ; p != nil; p = p.below {
		n++
	}
	return n
}

// other is a heap with a marker by another hand.
type other struct {
	things  []*thing
	freed   []uint64
	roots   [16]*thing
	pile    *pile
	running bool
	changed bool // whether something was changed since Start
}

// of is the thing of a live handle.
func (o *other) of(name uint64) *thing {
	if i := slices.IndexFunc(o.things, func(x *thing) bool { return x.name == name }); i >= 0 {
		return o.things[i]
	}
	return nil
}

// names are all handles that were ever told.
func (o *other) names() []uint64 {
	l := slices.Clone(o.freed)
	for _, x := range o.things {
		l = append(l, x.name)
	}
	return l
}

// see marks a thing and puts it on the pile, if it may.
func (o *other) see(x *thing) {
	if x != nil && !x.marked {
		x.marked, x.puts = true, x.puts+1
		o.pile = &pile{x, o.pile}
	}
}

func (o *other) made(name uint64, refs int) {
	o.things = append(o.things, &thing{name: name, refs: make([]*thing, refs), marked: o.running})
	o.changed = true
}

func (o *other) linked(x *thing) {
	if o.running {
		o.see(x)
	}
	o.changed = true
}

func (o *other) start() string {
	if o.running {
		return line(api.ErrState)
	}
	o.running, o.pile, o.changed = true, nil, false
	for _, x := range o.things {
		x.marked, x.puts = false, 0
	}
	for _, x := range o.roots {
		o.see(x)
	}
	return line(api.OK)
}

func (o *other) step(n int) string {
	if !o.running {
		return line(false, api.ErrState)
	}
	if n < 1 {
		return line(false, api.ErrArg)
	}
	for range n {
		if o.pile == nil {
			break
		}
		x := o.pile.top
		o.pile = o.pile.below
		for _, y := range x.refs {
			o.see(y)
		}
	}
	return line(o.pile == nil, api.OK)
}

func (o *other) stop() string {
	if !o.running {
		return line(api.ErrState)
	}
	o.running = false
	return line(api.OK)
}

// marks shows of each handle whether it is marked, as marks of a marker does.
func (o *other) marks(of []uint64) string {
	s := ""
	for _, name := range of {
		switch x := o.of(name); {
		case x == nil:
			s += "?"
		case x.marked:
			s += "+"
		default:
			s += "-"
		}
	}
	return s
}

// puts is how often things were put on the pile since Start, at most.
func (o *other) puts() int {
	n := 0
	for _, x := range o.things {
		n = max(n, x.puts)
	}
	return n
}

// reached are the things that are reached.
func (o *other) reached() []*thing {
	var all []*thing
	for layer := o.roots[:]; len(layer) > 0; {
		var next []*thing
		for _, x := range layer {
			if x != nil && !slices.Contains(all, x) {
				all = append(all, x)
				next = append(next, x.refs...)
			}
		}
		layer = next
	}
	return all
}

// lose lets the things go that are not reached, some of them, and tells their handles.
func (o *other) lose(some func() bool) []uint64 {
	all := o.reached()
	var names []uint64
	o.things = slices.DeleteFunc(o.things, func(x *thing) bool {
		if slices.Contains(all, x) || !some() {
			return false
		}
		names = append(names, x.name)
		return true
	})
	// What is left may hold what is gone.
	for _, x := range o.things {
		for i, y := range x.refs {
			if y != nil && slices.Contains(names, y.name) {
				x.refs[i] = nil
			}
		}
	}
	o.freed = append(o.freed, names...)
	return names
}

// pair is a heap with a marker and the other hand's, which are told the same.
type pair struct {
	heap   *heap.Heap
	marker *mark.Marker
	other  *other
}
