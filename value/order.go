package value

import (
	"cmp"
	"slices"
	"strings"

	"tidemark/api"
	"tidemark/hashing"
)

// Compare tells which of a and b is ahead in the order.
func Compare(a, b api.Val) (int, api.Errno) {
	if e := Good(a); e != api.OK {
		return 0, e
	}
	if e := Good(b); e != api.OK {
		return 0, e
	}
	return order(a, b), api.OK
}

// order is Compare of good values.
func order(a, b api.Val) int {
	if c := cmp.Compare(a.Kind, b.Kind); c != 0 {
		return c
	}
	switch a.Kind {
	case api.Bool, api.Int:
		return cmp.Compare(a.N, b.N)
	case api.Text:
		return strings.Compare(a.S, b.S)
	case api.List:
		return slices.CompareFunc(a.L, b.L, order)
	case api.Doc:
		return slices.CompareFunc(a.F, b.F, orderOfFields)
	}
	return 0
}

// orderOfFields is the order of good fields.
func orderOfFields(a, b api.Field) int {
	if c := strings.Compare(a.Name, b.Name); c != 0 {
		return c
	}
	return order(a.V, b.V)
}

// Hash tells the hash of v's bytes.
func Hash(v api.Val) (uint64, api.Errno) {
	if e := Good(v); e != api.OK {
		return 0, e
	}
	return hashValue(hashing.Start, v), api.OK
}

// hashValue goes on from h over the bytes of v: they need not be written for it.
func hashValue(h uint64, v api.Val) uint64 {
	h = hashing.Byte(h, byte(v.Kind))
	switch v.Kind {
	case api.Bool:
		h = hashing.Byte(h, byte(v.N))
	case api.Int:
		h = hashNumber(h, unsigned(v.N))
	case api.Text:
		h = hashText(h, v.S)
	case api.List:
		h = hashNumber(h, uint64(len(v.L)))
		for _, x := range v.L {
			h = hashValue(h, x)
		}
	case api.Doc:
		h = hashNumber(h, uint64(len(v.F)))
		for _, f := range v.F {
			h = hashValue(hashText(h, f.Name), f.V)
		}
	}
	return h
}

// hashText goes on over a text with its length ahead.
func hashText(h uint64, s string) uint64 {
	return hashing.Bytes(hashNumber(h, uint64(len(s))), s)
}

// hashNumber goes on over a number's digits by base 128, of which all but the last are told by 128 more.
func hashNumber(h, n uint64) uint64 {
	for ; n >= 128; n /= 128 {
		h = hashing.Byte(h, byte(n%128+128))
	}
	return hashing.Byte(h, byte(n))
}
