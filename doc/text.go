package doc

import (
	"slices"

	"tidemark/api"
)

// wide is how many bytes a word holds, byteBits how many bits a byte has.
const (
	wide     = 8
	byteBits = 8
)

// pack tells the scalars of a Text.
func pack(s string) []uint64 {
	l := make([]uint64, scalarsFor(len(s)))
	l[0] = uint64(len(s))
	for i := range len(s) {
		l[1+i/wide] |= uint64(s[i]) << (i % wide * byteBits)
	}
	return l
}

// unpack tells the text of a Text's scalars; false: they are none's.
func unpack(l []uint64) (string, bool) {
	if len(l) == 0 || l[0] > api.MaxBytes || len(l) != scalarsFor(int(l[0])) {
		return "", false
	}
	n := int(l[0])
	b := make([]byte, 0, wide*len(l))
	for _, w := range l[1:] {
		for i := range wide {
			b = append(b, byte(w>>(i*byteBits)))
		}
	}
	if slices.ContainsFunc(b[n:], func(c byte) bool { return c != 0 }) {
		return "", false
	}
	return string(b[:n]), true
}

// scalarsFor tells how many scalars a Text of n bytes has.
func scalarsFor(n int) int { return 1 + (n+wide-1)/wide }
