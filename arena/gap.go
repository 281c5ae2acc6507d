package arena

import (
	"tidemark/api"
)

// Open opens the gap, ahead of all objects.
func (a *Arena) Open() api.Errno {
	if a == nil {
		return api.ErrArg
	}
	if a.open {
		return api.ErrState
	}
	a.open = true
	return api.OK
}

// Gap tells the gap's ends, and whether it is open.
func (a *Arena) Gap() (low, high int, open bool) {
	if a == nil {
		return 0, 0, false
	}
	return a.low, a.high, a.open
}

// Keep moves the object behind the gap ahead of it, and tells where it was and where it is.
func (a *Arena) Keep() (from, to int, e api.Errno) {
	from, e = a.take()
	if e != api.OK {
		return 0, 0, e
	}
	to = a.low
	// The places may overlap; copy moves the words as if they lay apart.
	copy(a.words[to:], a.words[from:a.high])
	a.low += a.high - from
	a.begins.add(to)
	return from, to, api.OK
}

// Skip lets the object behind the gap go, and tells where it was.
func (a *Arena) Skip() (int, api.Errno) {
	return a.take()
}

// take moves the gap's high end behind the object there, which begins there no more, and tells where it was.
func (a *Arena) take() (int, api.Errno) {
	if a == nil {
		return 0, api.ErrArg
	}
	if !a.open {
		return 0, api.ErrState
	}
	if a.high == a.top {
		return 0, api.ErrEnd
	}
	from := a.high
	a.high = a.behind(from)
	a.begins.drop(from)
	return from, api.OK
}

// Close closes the gap, once no object is left behind it: the words from its low end on are free then.
func (a *Arena) Close() api.Errno {
	if a == nil {
		return api.ErrArg
	}
	if !a.open {
		return api.ErrState
	}
	if a.high != a.top {
		return api.ErrBusy
	}
	a.top = a.low
	a.low, a.high, a.open = 0, 0, false
	return api.OK
}
