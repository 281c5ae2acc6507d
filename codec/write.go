package codec

import "tidemark/api"

// putValue writes the good value v behind b.
func putValue(b []byte, v api.Val) []byte {
	b = append(b, byte(v.Kind))
	switch v.Kind {
	case api.Bool:
		b = append(b, byte(v.N))
	case api.Int:
		b = putNumber(b, folded(v.N))
	case api.Text:
		b = putText(b, v.S)
	case api.List:
		b = putNumber(b, uint64(len(v.L)))
		for _, x := range v.L {
			b = putValue(b, x)
		}
	case api.Doc:
		b = putNumber(b, uint64(len(v.F)))
		for _, f := range v.F {
			b = putValue(putText(b, f.Name), f.V)
		}
	}
	return b
}

// putText writes a text with its number of bytes ahead.
func putText(b []byte, s string) []byte {
	return append(putNumber(b, uint64(len(s))), s...)
}

// putNumber writes the varint of n.
func putNumber(b []byte, n uint64) []byte {
	for ; n >= 128; n /= 128 {
		b = append(b, byte(n%128+128))
	}
	return append(b, byte(n))
}

// folded tells the number as which the bytes have an Int: it may not be below 0, and has few digits near 0 on either side.
func folded(n int64) uint64 { return uint64(n)<<1 ^ uint64(n>>63) }

// unfolded is the other way round.
func unfolded(n uint64) int64 { return int64(n>>1) ^ -int64(n&1) }
