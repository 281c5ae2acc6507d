package mark

// Made is called by the heap: what is made during a marking is marked. It holds nothing yet, and what it comes to hold
// is told by Linked, so that it need not go through the stack.
func (m *Marker) Made(x uint64) {
	if m.Running() {
		m.mark(x)
	}
}

// Linked is called by the heap: what is linked during a marking may be held by an object that the marking has gone
// through already, and would be missed.
func (m *Marker) Linked(x uint64) {
	if m.Running() {
		m.put(x)
	}
}
