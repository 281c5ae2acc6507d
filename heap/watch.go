package heap

// Watcher is told of handles: what was made, and what a ref or a root was made to hold.
type Watcher interface {
	Made(h uint64)
	Linked(h uint64)
}

// Watch makes w the one who is told from now on; nil: nobody is.
func (h *Heap) Watch(w Watcher) {
	if h != nil {
		h.watcher = w
	}
}

// tellMade tells the watcher that x was made. What a watcher throws ends here: the change is done already, and no call
// of a heap panics.
func (h *Heap) tellMade(x uint64) {
	if h == nil || h.watcher == nil {
		return
	}
	defer func() { _ = recover() }()
	h.watcher.Made(x)
}

// tellLinked tells the watcher that x is held by one more; 0 is nothing to tell of.
func (h *Heap) tellLinked(x uint64) {
	if h == nil || h.watcher == nil || x == 0 {
		return
	}
	defer func() { _ = recover() }()
	h.watcher.Linked(x)
}
