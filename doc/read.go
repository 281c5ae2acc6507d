package doc

import (
	"tidemark/api"
	"tidemark/heap"
)

// reader reads values of a heap. A good value has at most MaxBytes bytes, of which each object takes at least one, and a
// Text's each byte one more: where the room for them ends there is none, be it that objects hold themselves, or that a
// few are held over and over.
type reader struct {
	heap *heap.Heap
	room int
}

// open is a value that is being read: those of its parts that the refs from next on hold are not in it yet.
type open struct {
	seen
	v    api.Val
	next int
}

// value tells the value of x, good or not.
func (r *reader) value(x uint64) (api.Val, api.Errno) {
	var (
		stack []open
		top   *open
		o     open
		v     api.Val
		e     api.Errno
	)

object:
	o, e = r.begin(x)
	if e != api.OK {
		return api.Val{}, e
	}
	stack = append(stack, o)

part:
	top = &stack[len(stack)-1]
	if top.next == top.refs {
		goto whole
	}
	x, e = r.part(top)
	if e != api.OK {
		return api.Val{}, e
	}
	goto object

whole:
	v = top.v
	stack = stack[:len(stack)-1]
	if len(stack) == 0 {
		return v, api.OK
	}
	stack[len(stack)-1].take(v)
	goto part
}

// begin tells the value of x without its parts.
func (r *reader) begin(x uint64) (open, api.Errno) {
	s, e := look(r.heap, x)
	if e != api.OK {
		return open{}, e
	}
	o, ok := open{seen: s, v: api.Val{Kind: s.tag}}, true
	switch s.tag {
	case api.Bool, api.Int:
		o.v.N = int64(s.words()[0])
	case api.Text:
		o.v.S, ok = s.text()
	}
	r.room -= 1 + len(o.v.S)
	if !ok || r.room < 0 {
		return open{}, api.ErrForm
	}
	return o, api.OK
}

// part tells the next part of a value that has one; of a Doc, its name is in the value then.
func (r *reader) part(o *open) (uint64, api.Errno) {
	y := o.ref(o.next)
	o.next++
	if o.tag == api.List {
		return y, api.OK
	}
	name, e := r.begin(y)
	if e != api.OK {
		return 0, e
	}
	if name.tag != api.Text {
		return 0, api.ErrForm
	}
	o.v.F = append(o.v.F, api.Field{Name: name.v.S})
	y = o.ref(o.next)
	o.next++
	return y, api.OK
}

// take puts the part that was told last into the value.
func (o *open) take(v api.Val) {
	if o.tag == api.List {
		o.v.L = append(o.v.L, v)
	} else {
		o.v.F[len(o.v.F)-1].V = v
	}
}
