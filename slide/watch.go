package slide

import (
	"tidemark/heap"
)

// keeper watches a heap while its objects slide.
type keeper struct {
	heap *heap.Heap
}

// Made is called by the heap: what is made stands behind the gap, and would be let go.
func (k keeper) Made(x uint64) {
	at, _ := k.heap.Table().At(x)
	k.heap.Arena().Mark(at, true)
}

// Linked is called by the heap: what is linked is reached, or was made since Start, so that it is marked, or was kept
// already.
func (k keeper) Linked(uint64) {}
