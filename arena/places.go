package arena

// places are bits, one for each word of an arena: it is set where an object begins. An object's words may be any, so
// that nothing in the words themselves could tell a head from them.
type places []uint64

// placesFor is room for so many bits, none of them set.
func placesFor(words int) places {
	return make(places, (words+63)>>6)
}

func (p places) add(at int) {
	p[at>>6] |= 1 << (at & 63)
}

func (p places) drop(at int) {
	p[at>>6] &^= 1 << (at & 63)
}

func (p places) has(at int) bool {
	return p[at>>6]>>(at&63)&1 == 1
}
