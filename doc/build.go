package doc

import (
	"tidemark/api"
	"tidemark/heap"
)

// object is one of a value's, which have numbers from 0 on: its refs hold those from the number first on.
type object struct {
	tag         int
	first, refs int
	scalars     []uint64
}

// layout is a value's objects, of which those on the stack have a number and nothing else yet.
type layout struct {
	objects []object
	stack   []part
}

// part is a value, and the number of its object.
type part struct {
	v      api.Val
	number int
}

// layOut tells the objects of a good value, the outer one first.
func layOut(v api.Val) []object {
	var l layout
	var p part
	var o object
	l.put(v)

next:
	if len(l.stack) == 0 {
		return l.objects
	}
	p = l.take()
	// The tags are the Kinds' numbers.
	o = object{tag: p.v.Kind, first: len(l.objects)}
	switch p.v.Kind {
	case api.Bool, api.Int:
		goto number
	case api.Text:
		goto text
	case api.List:
		goto values
	case api.Doc:
		goto fields
	}
	goto whole

number:
	o.scalars = []uint64{uint64(p.v.N)}
	goto whole

text:
	o.scalars = pack(p.v.S)
	goto whole

values:
	for _, x := range p.v.L {
		l.put(x)
	}
	goto whole

fields:
	for _, f := range p.v.F {
		l.put(api.Val{Kind: api.Text, S: f.Name})
		l.put(f.V)
	}

whole:
	o.refs = len(l.objects) - o.first
	l.objects[p.number] = o
	goto next
}

// put gives v the next number, and puts it on the stack.
func (l *layout) put(v api.Val) {
	l.stack = append(l.stack, part{v: v, number: len(l.objects)})
	l.objects = append(l.objects, object{})
}

// take takes what was put on the stack last.
func (l *layout) take() part {
	last := len(l.stack) - 1
	p := l.stack[last]
	l.stack = l.stack[:last]
	return p
}

// wordsOf tells how many words objects take, with their heads.
func wordsOf(l []object) int {
	n := len(l)
	for _, o := range l {
		n += o.refs + len(o.scalars)
	}
	return n
}

// makeAll makes a value's objects, if there is room for all of them, and tells the handle of the first one.
func makeAll(h *heap.Heap, l []object) (uint64, api.Errno) {
	if h.Arena().Free() < wordsOf(l) || h.Table().Slots()-h.Table().Count() < len(l) {
		return 0, api.ErrFull
	}
	handles := make([]uint64, len(l))
	for i, o := range l {
		x, e := h.Make(o.tag, o.refs, o.refs+len(o.scalars))
		// A watcher that makes objects of its own may have taken the room.
		if e != api.OK {
			return 0, e
		}
		handles[i] = x
		for k, w := range o.scalars {
			h.SetWord(x, k, w)
		}
	}
	for i, o := range l {
		for k := range o.refs {
			h.SetRef(handles[i], k, handles[o.first+k])
		}
	}
	return handles[0], api.OK
}
