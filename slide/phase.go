package slide

import (
	"math"
)

// units does at most n units, and tells whether no collection is at work any more. Each phase is a part of it, which
// hands on to the next one.
func (c *Collector) units(n int) bool {
	switch c.phase {
	case marking:
		goto mark
	case sliding:
		goto slide
	}
	return true

mark:
	if c.marker.Waiting() == 0 {
		c.turn()
		goto slide
	}
	// Units that leave nothing on the stack end the step: others may link something ahead of the next one.
	c.marker.Step(n)
	return false

slide:
	if n == 0 {
		return false
	}
	n--
	if c.pass() {
		goto slide
	}
	c.end()
	return true
}

// finish brings the collection that is at work, if one is, to its end.
func (c *Collector) finish() {
	for !c.units(math.MaxInt) {
	}
}

// turn goes from marking to sliding: all that is reached is marked.
func (c *Collector) turn() {
	c.marker.Stop()
	c.heap.Arena().Open()
	c.heap.Watch(keeper{c.heap})
	c.phase = sliding
}

// pass brings the object behind the gap ahead of it, or lets it go; false: there is none.
func (c *Collector) pass() bool {
	a := c.heap.Arena()
	_, high, open := a.Gap()
	// Who holds the arena itself may have closed the gap.
	if !open || high == a.Top() {
		return false
	}
	head, _ := a.Head(high)
	x, _ := c.heap.Table().Of(head.Owner)
	if head.Mark {
		c.keep(x)
	} else {
		c.skip(x)
	}
	return true
}

// keep brings the object behind the gap, of the handle x, ahead of it.
func (c *Collector) keep(x uint64) {
	from, to, _ := c.heap.Arena().Keep()
	c.heap.Arena().Mark(to, false)
	c.heap.Table().Move(x, to)
	if from != to {
		c.moved++
	}
}

// skip lets the object behind the gap, of the handle x, go.
func (c *Collector) skip(x uint64) {
	c.heap.Arena().Skip()
	c.heap.Table().Free(x)
}

// end ends a collection that has gone through all objects.
func (c *Collector) end() {
	c.heap.Arena().Close()
	c.heap.Watch(nil)
	c.phase = none
	c.rounds++
}
