package codec_test

import (
	"math"
	"math/rand"
	"slices"
	"testing"

	"tidemark/api"
	"tidemark/codec"
)

// writes sees to it that n has that varint, and that it is read again, at any place.
func writes(t *testing.T, n uint64, want ...byte) {
	t.Helper()
	if b := codec.Varint(n); !slices.Equal(b, want) {
		t.Errorf("Varint of %d: %v, want %v", n, b, want)
	}
	reads(t, want, 0, n, len(want))
	reads(t, raw(want, 0, 255), 0, n, len(want))
	reads(t, raw(255, 128, want, 7), 2, n, 2+len(want))
}

func reads(t *testing.T, b []byte, at int, want uint64, behind int) {
	t.Helper()
	if n, next, e := codec.Number(b, at); n != want || next != behind || e != api.OK {
		t.Errorf("Number of %v at %d: %d, %d, %d, want %d, %d", b, at, n, next, int(e), want, behind)
	}
}

func readsNone(t *testing.T, b []byte, at int, want api.Errno) {
	t.Helper()
	if n, next, e := codec.Number(b, at); n != 0 || next != 0 || e != want {
		t.Errorf("Number of %v at %d: %d, %d, %d, want error %d", b, at, n, next, int(e), int(want))
	}
}

// P3.1: numbers of one digit to ten.
func TestVarints(t *testing.T) {
	writes(t, 0, 0)
	writes(t, 1, 1)
	writes(t, 127, 127)
	writes(t, 128, 128, 1)
	writes(t, 300, 172, 2)
	writes(t, 255, 255, 1)
	writes(t, 256, 128, 2)
	writes(t, 16383, 255, 127)
	writes(t, 16384, 128, 128, 1)
	writes(t, 1<<31-1, 255, 255, 255, 255, 7)
	writes(t, 1<<63-1, 255, 255, 255, 255, 255, 255, 255, 255, 127)
	writes(t, 1<<63, 128, 128, 128, 128, 128, 128, 128, 128, 128, 1)
	writes(t, 1<<64-2, 254, 255, 255, 255, 255, 255, 255, 255, 255, 1)
	writes(t, 1<<64-1, 255, 255, 255, 255, 255, 255, 255, 255, 255, 1)
	for digits := 1; digits < 10; digits++ {
		edge := uint64(1) << (7 * digits)
		writes(t, edge-1, varint(edge-1)...)
		writes(t, edge, varint(edge)...)
		if a, b := len(codec.Varint(edge-1)), len(codec.Varint(edge)); a != digits || b != digits+1 {
			t.Errorf("Varint of %d has %d bytes, the one behind it %d", edge-1, a, b)
		}
	}
	r := rand.New(rand.NewSource(1))
	for range 20000 {
		n := r.Uint64() >> r.Intn(64)
		writes(t, n, varint(n)...)
	}
}

// P3.1: a place below 0, at the end and behind it.
func TestNumberPlaces(t *testing.T) {
	for _, b := range [][]byte{nil, {}, {1}, {128}, {5, 6, 7}} {
		for _, at := range []int{-1, -2, math.MinInt, len(b) + 1, len(b) + 2, math.MaxInt} {
			readsNone(t, b, at, api.ErrArg)
		}
		readsNone(t, b, len(b), api.ErrEnd)
	}
	reads(t, []byte{5, 6, 7}, 0, 5, 1)
	reads(t, []byte{5, 6, 7}, 1, 6, 2)
	reads(t, []byte{5, 6, 7}, 2, 7, 3)
	// Spare room is not there to be read.
	readsNone(t, []byte{1, 2, 3}[:1], 1, api.ErrEnd)
	readsNone(t, []byte{1, 2, 3}[:1], 2, api.ErrArg)
	readsNone(t, []byte{128, 2, 3}[:1], 0, api.ErrEnd)
}

// P3.1: bytes that end too early.
func TestNumberEnds(t *testing.T) {
	for n := range 9 {
		readsNone(t, slices.Repeat([]byte{128}, n), 0, api.ErrEnd)
		readsNone(t, slices.Repeat([]byte{255}, n+1), 0, api.ErrEnd)
		readsNone(t, slices.Repeat([]byte{129}, n+1), n, api.ErrEnd)
	}
}

// P3.1: a last byte 0 behind others.
func TestNumberTooManyDigits(t *testing.T) {
	for n := 1; n <= 9; n++ {
		for _, c := range []byte{128, 129, 255} {
			readsNone(t, raw(slices.Repeat([]byte{c}, n), 0), 0, api.ErrForm)
			readsNone(t, raw(slices.Repeat([]byte{c}, n), 0, 1), 0, api.ErrForm)
			reads(t, raw(0, slices.Repeat([]byte{c}, n), 0), 0, 0, 1)
		}
	}
}

// P3.1: a tenth byte above 1: told as soon as it stands there, whatever is behind it.
func TestNumberTooGreat(t *testing.T) {
	nine := slices.Repeat([]byte{128}, 9)
	for c := 2; c < 256; c++ {
		readsNone(t, raw(nine, c), 0, api.ErrForm)
		readsNone(t, raw(nine, c, 0), 0, api.ErrForm)
		readsNone(t, raw(nine, c, 1), 0, api.ErrForm)
		readsNone(t, raw(7, slices.Repeat([]byte{255}, 9), c, 128), 1, api.ErrForm)
	}
	reads(t, raw(nine, 1), 0, 1<<63, 10)
	reads(t, raw(nine, 1, 128, 128), 0, 1<<63, 10)
	reads(t, raw(nine[:8], 127), 0, 127<<56, 9)
	reads(t, raw(nine[:8], 2), 0, 2<<56, 9)
}

// P3.1: bytes made by chance, held against another reader; what is read is written as it was.
func TestNumbersByChance(t *testing.T) {
	r := rand.New(rand.NewSource(2))
	for range 50000 {
		b := make([]byte, r.Intn(13))
		for i := range b {
			b[i] = []byte{0, 1, 2, 127, 128, 129, 255, 200}[r.Intn(8)]
			if r.Intn(2) == 0 {
				b[i] |= 128
			}
		}
		at := r.Intn(len(b) + 1)
		n, next, e := codec.Number(b, at)
		wantN, wantNext, want := readNumber(b, at)
		if n != wantN || next != wantNext || e != want {
			t.Fatalf("Number of %v at %d: %d, %d, %d, want %d, %d, %d", b, at, n, next, int(e), wantN, wantNext, int(want))
		}
		if e == api.OK && !slices.Equal(codec.Varint(n), b[at:next]) {
			t.Fatalf("Varint of %d: %v, read of %v", n, codec.Varint(n), b[at:next])
		}
	}
}
