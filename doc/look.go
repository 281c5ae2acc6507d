package doc

import (
	"tidemark/api"
	"tidemark/heap"
)

// seen is an object in a heap that has so many refs and scalars as an object of a value with that tag has.
type seen struct {
	heap               *heap.Heap
	x                  uint64
	tag, refs, scalars int
}

// look tells the object of x: ErrStale, if there is none, ErrForm, if it is no value's.
func look(h *heap.Heap, x uint64) (seen, api.Errno) {
	tag, refs, size, e := h.Head(x)
	if e == api.ErrStale {
		return seen{}, e
	}
	// A live handle whose slot's number is the place of no object is refused otherwise.
	if e != api.OK || !formed(tag, refs, size-refs) {
		return seen{}, api.ErrForm
	}
	return seen{heap: h, x: x, tag: tag, refs: refs, scalars: size - refs}, api.OK
}

// formed tells whether an object of a value with that tag may have so many refs and scalars.
func formed(tag, refs, scalars int) bool {
	switch tag {
	case api.Null:
		return refs == 0 && scalars == 0
	case api.Bool, api.Int:
		return refs == 0 && scalars == 1
	case api.Text:
		return refs == 0
	case api.List:
		return scalars == 0
	case api.Doc:
		return scalars == 0 && refs%2 == 0
	}
	return false
}

// ref is what the ref i holds.
func (s seen) ref(i int) uint64 {
	y, _ := s.heap.Ref(s.x, i)
	return y
}

// words are the scalars.
func (s seen) words() []uint64 {
	l := make([]uint64, s.scalars)
	for i := range l {
		l[i], _ = s.heap.Word(s.x, i)
	}
	return l
}

// text is what a Text's object tells; false: it is none's.
func (s seen) text() (string, bool) {
	if s.tag != api.Text {
		return "", false
	}
	return unpack(s.words())
}
