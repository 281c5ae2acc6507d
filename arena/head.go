package arena

// Where the parts of a head stand in its word, from the lowest bit on. A size, as a number of references, is up to
// MaxSize, 2^12, and an owner is below MaxHandles, 2^20.
const (
	tagBits   = 8
	sizeBits  = 13
	ownerBits = 20

	sizeAt  = tagBits
	refsAt  = sizeAt + sizeBits
	ownerAt = refsAt + sizeBits
	markAt  = ownerAt + ownerBits
)

// marked is the mark's bit.
const marked uint64 = 1 << markAt

// pack is the head's word of an object that is not marked; all its parts fit.
func pack(tag, refs, size, owner int) uint64 {
	return uint64(tag) | uint64(size)<<sizeAt | uint64(refs)<<refsAt | uint64(owner)<<ownerAt
}

// unpack is the head that a word is.
func unpack(w uint64) Head {
	return Head{
		Tag:   part(w, 0, tagBits),
		Refs:  part(w, refsAt, sizeBits),
		Size:  sizeOf(w),
		Mark:  w&marked != 0,
		Owner: part(w, ownerAt, ownerBits),
	}
}

// sizeOf is the size alone, which is asked for most.
func sizeOf(w uint64) int {
	return part(w, sizeAt, sizeBits)
}

// part is the number in so many bits of w, from a place on.
func part(w uint64, at, bits uint) int {
	return int(w >> at & (1<<bits - 1))
}
