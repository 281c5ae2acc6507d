// Package hashing: the hash of bytes, one behind the other, for the layers that tell values or states by a number.
package hashing

// Start is the hash of no bytes, and prime what a hash is multiplied by at each byte.
const (
	Start uint64 = 14695981039346656037
	prime uint64 = 1099511628211
)

// Byte goes on from h over one byte.
func Byte(h uint64, b byte) uint64 { return (h ^ uint64(b)) * prime }

// Bytes goes on from h over bytes, be they a text's.
func Bytes[T string | []byte](h uint64, l T) uint64 {
	for i := range len(l) {
		h = Byte(h, l[i])
	}
	return h
}
