package heap

import (
	"tidemark/api"
	"tidemark/arena"
)

// Head tells an object's tag, how many refs it has, and how many refs and scalars.
func (h *Heap) Head(x uint64) (tag, refs, size int, e api.Errno) {
	_, head, e := h.object(x)
	return head.Tag, head.Refs, head.Size, e
}

// Ref tells an object's ref i.
func (h *Heap) Ref(x uint64, i int) (uint64, api.Errno) {
	at, e := h.ref(x, i)
	if e != api.OK {
		return 0, e
	}
	return h.arena.Get(at, i)
}

// SetRef makes an object's ref i y, or nothing.
func (h *Heap) SetRef(x uint64, i int, y uint64) api.Errno {
	at, e := h.ref(x, i)
	if e != api.OK {
		return e
	}
	if !h.mayHold(y) {
		return api.ErrStale
	}
	h.arena.Put(at, i, y)
	h.tellLinked(y)
	return api.OK
}

// Word tells an object's scalar i.
func (h *Heap) Word(x uint64, i int) (uint64, api.Errno) {
	at, k, e := h.scalar(x, i)
	if e != api.OK {
		return 0, e
	}
	return h.arena.Get(at, k)
}

// SetWord makes an object's scalar i w.
func (h *Heap) SetWord(x uint64, i int, w uint64) api.Errno {
	at, k, e := h.scalar(x, i)
	if e != api.OK {
		return e
	}
	return h.arena.Put(at, k, w)
}

// object is the place and the head of a live handle's object. Where the slot's number is the place of none, which no
// call of a heap brings about, that is the arena's to refuse.
func (h *Heap) object(x uint64) (int, arena.Head, api.Errno) {
	at, e := h.Table().At(x)
	if e != api.OK {
		return 0, arena.Head{}, e
	}
	head, e := h.Arena().Head(at)
	if e != api.OK {
		return 0, arena.Head{}, e
	}
	return at, head, api.OK
}

// ref is the place of an object that has a ref i.
func (h *Heap) ref(x uint64, i int) (int, api.Errno) {
	at, head, e := h.object(x)
	if e != api.OK {
		return 0, e
	}
	if i < 0 || i >= head.Refs {
		return 0, api.ErrArg
	}
	return at, api.OK
}

// scalar is the place of an object that has a scalar i, and which of its words that is: the refs stand first.
func (h *Heap) scalar(x uint64, i int) (at, k int, e api.Errno) {
	at, head, e := h.object(x)
	if e != api.OK {
		return 0, 0, e
	}
	if i < 0 || i >= head.Size-head.Refs {
		return 0, 0, api.ErrArg
	}
	return at, head.Refs + i, api.OK
}
