package tree

import (
	"cmp"
	"slices"

	"tidemark/api"
	"tidemark/heap"
)

// maxKey is how many bytes a key may have.
const maxKey = 16384

// wide is how many bytes a word holds, byteBits how many bits a byte has.
const (
	wide     = 8
	byteBits = 8
)

// packed is a key as its object's scalars have it: how many bytes, and they.
//
// A word's first byte is its highest digit by base 256, and the last word is filled up with bytes 0, so that words are
// ordered as their bytes. Where all words that two keys have are alike, the shorter key is the other one's beginning, or
// they are the same: their lengths tell the order.
type packed struct {
	length int
	words  []uint64
}

// pack is a key of bytes.
func pack(key []byte) packed {
	k := packed{length: len(key), words: make([]uint64, wordsFor(len(key)))}
	for i, b := range key {
		k.words[i/wide] |= uint64(b) << shift(i)
	}
	return k
}

// bytes are the bytes of a key, in new memory.
func (k packed) bytes() []byte {
	b := make([]byte, k.length)
	for i := range b {
		b[i] = byte(k.words[i/wide] >> shift(i))
	}
	return b
}

// shift is how many bits stand behind the byte i of a key, in its word.
func shift(i int) int { return (wide - 1 - i%wide) * byteBits }

// wordsFor tells how many words n bytes take.
func wordsFor(n int) int { return (n + wide - 1) / wide }

// size tells how many scalars a key's object has.
func (k packed) size() int { return 1 + len(k.words) }

// makeKey makes a key's object.
func makeKey(h *heap.Heap, k packed) (uint64, api.Errno) {
	x, e := h.Make(tagKey, 0, k.size())
	if e != api.OK {
		return 0, e
	}
	h.SetWord(x, 0, uint64(k.length))
	for i, w := range k.words {
		h.SetWord(x, 1+i, w)
	}
	return x, api.OK
}

// keyLength tells how many bytes the key of an object has.
func keyLength(h *heap.Heap, x uint64) (int, api.Errno) {
	tag, refs, size, _ := h.Head(x)
	length, e := h.Word(x, 0)
	if e != api.OK || tag != tagKey || refs != 0 || length > maxKey || size != 1+wordsFor(int(length)) {
		return 0, api.ErrForm
	}
	return int(length), api.OK
}

// compareKey tells whether the key of an object is below k (-1), the same (0), or above it (1). It reads no more words
// than it takes to tell.
func compareKey(h *heap.Heap, x uint64, k packed) (int, api.Errno) {
	length, e := keyLength(h, x)
	if e != api.OK {
		return 0, e
	}
	for i := range min(wordsFor(length), len(k.words)) {
		w, _ := h.Word(x, 1+i)
		if c := cmp.Compare(w, k.words[i]); c != 0 {
			return c, api.OK
		}
	}
	return cmp.Compare(length, k.length), api.OK
}

// readKey tells the key of an object.
func readKey(h *heap.Heap, x uint64) (packed, api.Errno) {
	length, e := keyLength(h, x)
	if e != api.OK {
		return packed{}, e
	}
	k := packed{length: length, words: make([]uint64, wordsFor(length))}
	for i := range k.words {
		k.words[i], _ = h.Word(x, 1+i)
	}
	// Bytes behind the last one that are not 0 would put the key elsewhere in the order.
	if !slices.Equal(pack(k.bytes()).words, k.words) {
		return packed{}, api.ErrForm
	}
	return k, api.OK
}
