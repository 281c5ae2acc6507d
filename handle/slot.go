package handle

// slot is a place of the table, taken or on the list of those that were freed.
type slot struct {
	number     int // of a free slot: the one that was freed ahead of it, and 1; 0: none
	generation uint32
	taken      bool
}

// pageBits is how many bits of a slot's place tell it within its page.
const pageBits = 6

// page is slots that lie together. A table has pages for the slots that were taken at some time alone, so that one of
// many slots is small while few are taken; and a page is never moved.
type page [1 << pageBits]slot

// genAt is where the generation stands in a handle; the slot's place and 1 stands below.
const genAt = 32

// pack is the handle of a slot.
func pack(place int, generation uint32) uint64 {
	return uint64(generation)<<genAt | uint64(place+1)
}

// unpack is the place and the generation that a number would stand for. The place may be any, -1 too.
func unpack(h uint64) (place int, generation uint32) {
	return int(h&(1<<genAt-1)) - 1, uint32(h >> genAt)
}

// slot is the one at a place, which was taken at some time.
func (t *Table) slot(place int) *slot {
	return &t.pages[place>>pageBits][place&(1<<pageBits-1)]
}

// taken is the slot at a place, which may be any number; nil, if no slot there is taken.
func (t *Table) taken(place int) *slot {
	if t == nil || place < 0 || place >= t.begun {
		return nil
	}
	s := t.slot(place)
	if !s.taken {
		return nil
	}
	return s
}

// live is the slot of a handle; nil, if it is not live.
func (t *Table) live(h uint64) *slot {
	place, generation := unpack(h)
	s := t.taken(place)
	if s == nil || s.generation != generation {
		return nil
	}
	return s
}

// link puts a taken slot at the head of the list of free ones.
func (t *Table) link(place int) {
	s := t.slot(place)
	*s = slot{number: t.freed, generation: s.generation + 1}
	t.freed = place + 1
}

// unlink is the place of the free slot that is taken next, off the list; there is a free one.
func (t *Table) unlink() int {
	if t.freed == 0 {
		return t.begin()
	}
	place := t.freed - 1
	t.freed = t.slot(place).number
	return place
}

// begin is the place of the lowest slot that was never taken, which has memory now; there is one.
func (t *Table) begin() int {
	place := t.begun
	if place>>pageBits == len(t.pages) {
		t.pages = append(t.pages, new(page))
	}
	t.begun++
	t.slot(place).generation = 1
	return place
}
