package mark

import (
	"tidemark/api"
)

// unit takes the object that was put on the stack last, and puts there what it holds.
func (m *Marker) unit() {
	last := len(m.stack) - 1
	x := m.stack[last]
	m.stack = m.stack[:last]
	_, refs, _, _ := m.heap.Head(x)
	for i := range refs {
		y, _ := m.heap.Ref(x, i)
		m.put(y)
	}
}

// put marks an object and puts it on the stack, if it is not marked: so that none comes there twice.
func (m *Marker) put(x uint64) {
	if m.mark(x) {
		m.stack = append(m.stack, x)
	}
}

// mark marks an object, and tells whether it was not marked till now. What stands for no object, such as 0, is left.
func (m *Marker) mark(x uint64) bool {
	at, on, e := m.object(x)
	if e != api.OK || on {
		return false
	}
	m.heap.Arena().Mark(at, true)
	return true
}

// object is the place and the mark of a live handle's object.
func (m *Marker) object(x uint64) (at int, on bool, e api.Errno) {
	at, e = m.heap.Table().At(x)
	if e != api.OK {
		return 0, false, e
	}
	// Of a slot whose number is the place of no object, which no call of a heap brings about, the arena refuses this.
	head, e := m.heap.Arena().Head(at)
	if e != api.OK {
		return 0, false, e
	}
	return at, head.Mark, api.OK
}

// unmark puts all marks off.
func (m *Marker) unmark() {
	a := m.heap.Arena()
	for at := a.First(); at < a.Top(); at, _ = a.Next(at) {
		a.Mark(at, false)
	}
}
