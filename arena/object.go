package arena

import (
	"tidemark/api"
)

// Head tells the head of the object at a place.
func (a *Arena) Head(at int) (Head, api.Errno) {
	if !a.holds(at) {
		return Head{}, api.ErrArg
	}
	return unpack(a.words[at]), api.OK
}

// Mark puts an object's mark on, or off.
func (a *Arena) Mark(at int, on bool) api.Errno {
	if !a.holds(at) {
		return api.ErrArg
	}
	a.words[at] &^= marked
	if on {
		a.words[at] |= marked
	}
	return api.OK
}

// Get tells an object's word i.
func (a *Arena) Get(at, i int) (uint64, api.Errno) {
	if !a.holdsWord(at, i) {
		return 0, api.ErrArg
	}
	return a.words[at+1+i], api.OK
}

// Put makes an object's word i w.
func (a *Arena) Put(at, i int, w uint64) api.Errno {
	if !a.holdsWord(at, i) {
		return api.ErrArg
	}
	a.words[at+1+i] = w
	return api.OK
}

// Next tells where the object behind the one at a place begins, or the top.
func (a *Arena) Next(at int) (int, api.Errno) {
	if !a.holds(at) {
		return 0, api.ErrArg
	}
	return a.beyondGap(a.behind(at)), api.OK
}

// First tells where the first object begins, or the top.
func (a *Arena) First() int {
	if a == nil {
		return 0
	}
	return a.beyondGap(0)
}

// holds tells whether an object begins at a place, which may be any number.
func (a *Arena) holds(at int) bool {
	return a != nil && within(at, 0, a.top-1) && a.begins.has(at)
}

// holdsWord tells whether an object begins at a place, and has a word i.
func (a *Arena) holdsWord(at, i int) bool {
	return a.holds(at) && within(i, 0, sizeOf(a.words[at])-1)
}

// behind is the place behind the last word of the object at a place.
func (a *Arena) behind(at int) int {
	return at + 1 + sizeOf(a.words[at])
}

// beyondGap is where the next object stands, seen from a place at which the one ahead ends: no object stands in the
// gap. A closed gap is from 0 to 0, so that it moves nothing.
func (a *Arena) beyondGap(at int) int {
	if at == a.low {
		return a.high
	}
	return at
}
