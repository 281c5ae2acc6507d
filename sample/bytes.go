package sample

import (
	"slices"

	"tidemark/api"
)

// Raw puts bytes together: of numbers, texts and bytes as they are, of values as write has them.
func Raw(write func(api.Val) []byte, parts ...any) []byte {
	var b []byte
	for _, p := range parts {
		switch x := p.(type) {
		case int:
			b = append(b, byte(x))
		case string:
			b = append(b, x...)
		case []byte:
			b = append(b, x...)
		case api.Val:
			b = append(b, write(x)...)
		}
	}
	return b
}

// Changed is b in new memory with some change: cut off, with one byte of some more, less or another one, or with all of more put in.
func Changed(r Chance, b, some, more []byte) []byte {
	b = slices.Clone(b)
	at := r.Intn(len(b) + 1)
	c := some[r.Intn(len(some))]
	switch r.Intn(5) {
	case 0:
		return b[:at]
	case 1:
		return slices.Insert(b, at, c)
	case 2:
		return slices.Insert(b, at, more...)
	}
	if at == len(b) {
		return append(b, c)
	}
	if r.Intn(4) == 0 {
		return slices.Delete(b, at, at+1)
	}
	b[at] = c
	return b
}

// AnyText is a text of fewer than most bytes: bytes of likely, but about one in rare of them is whatever byte.
func AnyText(r Chance, likely string, most, rare int) string {
	b := make([]byte, r.Intn(most))
	for i := range b {
		b[i] = likely[r.Intn(len(likely))]
		if r.Intn(rare) == 0 {
			b[i] = byte(r.Intn(256))
		}
	}
	return string(b)
}
