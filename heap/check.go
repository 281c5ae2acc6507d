package heap

import (
	"tidemark/api"
)

// Check tells whether slots and objects belong to each other, and whether all that is reached is there.
func (h *Heap) Check() api.Errno {
	if !h.slotsHold() || !h.objectsHeld() || h.reached().lost {
		return api.ErrForm
	}
	return api.OK
}

// slotsHold tells whether the number of each live slot is an object of that owner.
func (h *Heap) slotsHold() bool {
	t := h.Table()
	for _, x := range t.Live() {
		slot, _ := t.Slot(x)
		_, head, e := h.object(x)
		if e != api.OK || head.Owner != slot {
			return false
		}
	}
	return true
}

// objectsHeld tells whether the owner of each object is a live slot with that object's place as its number.
func (h *Heap) objectsHeld() bool {
	a := h.Arena()
	for at := a.First(); at < a.Top(); at, _ = a.Next(at) {
		head, _ := a.Head(at)
		if !h.holdsAt(head.Owner, at) {
			return false
		}
	}
	return true
}

// holdsAt tells whether a slot is live and its number is that place.
func (h *Heap) holdsAt(slot, at int) bool {
	t := h.Table()
	x, e := t.Of(slot)
	if e != api.OK {
		return false
	}
	number, _ := t.At(x)
	return number == at
}
