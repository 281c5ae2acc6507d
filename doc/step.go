package doc

import (
	"tidemark/api"
	"tidemark/heap"
	"tidemark/naming"
)

// Step tells where one step of a path leads from x. It looks at the object of x, at its names, and at the part that it
// leads to; the value need not be read for it.
func Step(h *heap.Heap, x uint64, step string) (uint64, bool, api.Errno) {
	s, e := look(h, x)
	if e == api.ErrStale {
		return 0, false, e
	}
	i, ok := s.find(step)
	if !ok {
		return 0, false, api.OK
	}
	y := s.ref(i)
	if _, _, _, e := h.Head(y); e != api.OK {
		return 0, false, api.OK
	}
	return y, true, api.OK
}

// find tells which ref a step leads to.
func (s seen) find(step string) (int, bool) {
	switch s.tag {
	case api.List:
		i, ok := naming.Place(step)
		return i, ok && i < s.refs
	case api.Doc:
		if naming.IsName(step) {
			return s.field(step)
		}
	}
	return 0, false
}

// field tells which ref holds the value of the field of that name.
func (s seen) field(name string) (int, bool) {
	at, there := 0, false
	// All names are looked at: if one is no Text, this is no value's object.
	for i := 0; i < s.refs; i += 2 {
		y, _ := look(s.heap, s.ref(i))
		text, ok := y.text()
		if !ok {
			return 0, false
		}
		if text == name && !there {
			at, there = i+1, true
		}
	}
	return at, there
}
