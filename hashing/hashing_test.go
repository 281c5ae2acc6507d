package hashing_test

import (
	"hash/fnv"
	"math/rand"
	"testing"

	"tidemark/hashing"
)

// P2.2: the hash of bytes, told at once, one by one, and as a text's.
func TestBytes(t *testing.T) {
	r := rand.New(rand.NewSource(1))
	for n := range 300 {
		b := make([]byte, n)
		r.Read(b)
		f := fnv.New64a()
		f.Write(b)
		one := hashing.Start
		for _, x := range b {
			one = hashing.Byte(one, x)
		}
		k := r.Intn(n + 1)
		two := hashing.Bytes(hashing.Bytes(hashing.Start, b[:k]), string(b[k:]))
		if want := f.Sum64(); one != want || two != want || hashing.Bytes(hashing.Start, b) != want || hashing.Bytes(hashing.Start, string(b)) != want {
			t.Fatalf("%v: %d, %d, want %d", b, one, two, want)
		}
	}
	if hashing.Start != 14695981039346656037 || hashing.Bytes(hashing.Start, "a") != 12638187200555641996 {
		t.Errorf("of no bytes %d, of a %d", hashing.Start, hashing.Bytes(hashing.Start, "a"))
	}
}
