package codec_test

import (
	"encoding/binary"
	"fmt"
	"math/rand"
	"slices"
	"testing"
	"unicode/utf8"

	"tidemark/api"
	"tidemark/codec"
	"tidemark/sample"
)

// The values that the tests are made of, by short names.
var (
	null, boolean, number, text = sample.Null(), sample.Bool, sample.Int, sample.Text
	list, doc, field            = sample.List, sample.Doc, sample.Field
	nulls, fields               = sample.Nulls, sample.Fields
	deepLists, deepDocs         = sample.DeepLists, sample.DeepDocs
	as, show, cut               = sample.Letters, sample.Show, sample.Cut
	withRoom, showRoom          = sample.WithRoom, sample.ShowRoom
)

// showReply tells all of a reply.
func showReply(r api.Reply) string {
	s := fmt.Sprint(int(r.E), " ", r.N)
	for _, v := range r.Docs {
		s += " " + show(v)
	}
	return s
}

// short is show, or bytes, cut off.
func short(x any) string {
	if v, ok := x.(api.Val); ok {
		return cut(show(v))
	}
	return cut(fmt.Sprint(x))
}

// raw puts bytes together: of numbers, texts and bytes as they are, of values as written has them.
func raw(parts ...any) []byte { return sample.Raw(written, parts...) }

// varint is a varint by another hand.
func varint(n uint64) []byte { return binary.AppendUvarint(nil, n) }

// written is a value's bytes by another hand.
func written(v api.Val) []byte {
	b := []byte{byte(v.Kind)}
	switch v.Kind {
	case api.Bool:
		b = append(b, byte(v.N))
	case api.Int:
		b = binary.AppendVarint(b, v.N)
	case api.Text:
		b = raw(b, varint(uint64(len(v.S))), v.S)
	case api.List:
		b = raw(b, varint(uint64(len(v.L))))
		for _, x := range v.L {
			b = raw(b, x)
		}
	case api.Doc:
		b = raw(b, varint(uint64(len(v.F))))
		for _, f := range v.F {
			b = raw(b, varint(uint64(len(f.Name))), f.Name, f.V)
		}
	}
	return b
}

// readNumber is Number by another hand.
func readNumber(b []byte, at int) (n uint64, next int, e api.Errno) {
	for i := at; i < len(b); i++ {
		c := b[i]
		if i-at == 9 && c > 1 || i > at && c == 0 {
			return 0, 0, api.ErrForm
		}
		if c < 128 {
			for k := i; k >= at; k-- {
				n = n*128 + uint64(b[k]%128)
			}
			return n, i + 1, api.OK
		}
	}
	return 0, 0, api.ErrEnd
}

// readText is a text, or a name, by another hand.
func readText(b []byte, at int, least, most uint64, wrong api.Errno) (s string, next int, e api.Errno) {
	n, at, e := readNumber(b, at)
	switch {
	case e != api.OK:
		return "", 0, e
	case n < least || n > most:
		return "", 0, wrong
	case at+int(n) > len(b):
		return "", 0, api.ErrEnd
	case !utf8.Valid(b[at : at+int(n)]):
		return "", 0, api.ErrText
	}
	return string(b[at : at+int(n)]), at + int(n), api.OK
}

// readParts is what stands in a List or a Doc by another hand, without the limit on all bytes.
func readParts(b []byte, at, depth int, v api.Val) (api.Val, int, api.Errno) {
	if depth > 8 {
		return api.Val{}, 0, api.ErrDeep
	}
	n, at, e := readNumber(b, at)
	if e == api.OK && n > 32 {
		e = api.ErrLimit
	}
	last := ""
	for i := uint64(0); i < n && e == api.OK; i++ {
		name := ""
		if v.Kind == api.Doc {
			name, at, e = readText(b, at, 1, 24, api.ErrLimit)
			if e == api.OK && i > 0 && name <= last {
				e = api.ErrForm
			}
			last = name
		}
		if e != api.OK {
			break
		}
		var x api.Val
		x, at, e = readValue(b, at, depth)
		if v.Kind == api.Doc {
			v.F = append(v.F, field(name, x))
		} else {
			v.L = append(v.L, x)
		}
	}
	if e != api.OK {
		return api.Val{}, 0, e
	}
	return v, at, api.OK
}

// readValue is a value that stands that deep by another hand, without the limit on all bytes.
func readValue(b []byte, at, depth int) (v api.Val, next int, e api.Errno) {
	if at == len(b) {
		return api.Val{}, 0, api.ErrEnd
	}
	v.Kind = int(b[at])
	next = at + 1
	var n uint64
	switch v.Kind {
	case api.Null:
	case api.Bool:
		if next == len(b) {
			e = api.ErrEnd
		} else if b[next] > 1 {
			e = api.ErrForm
		} else {
			v.N, next = int64(b[next]), next+1
		}
	case api.Int:
		n, next, e = readNumber(b, next)
		v.N = int64(n / 2)
		if n%2 == 1 {
			v.N = -int64(n/2) - 1
		}
	case api.Text:
		v.S, next, e = readText(b, next, 0, 2048, api.ErrBig)
	case api.List, api.Doc:
		v, next, e = readParts(b, next, depth+1, v)
	default:
		e = api.ErrForm
	}
	if e != api.OK {
		return api.Val{}, 0, e
	}
	return v, next, api.OK
}

// readTake is Take by another hand.
func readTake(b []byte, at int) (v api.Val, next int, e api.Errno) {
	if at < 0 || at > len(b) {
		return api.Val{}, 0, api.ErrArg
	}
	v, next, e = readValue(b, at, 0)
	if e == api.OK && next-at > 2048 {
		return api.Val{}, 0, api.ErrBig
	}
	return v, next, e
}

// takes sees to it that Take tells v and the place behind it.
func takes(t *testing.T, b []byte, at int, want api.Val, behind int) {
	t.Helper()
	if v, next, e := codec.Take(b, at); e != api.OK || next != behind || show(v) != show(want) {
		t.Errorf("Take of %s at %d: %s, %d, %d, want %s, %d", short(b), at, short(v), next, int(e), short(want), behind)
	}
}

// takesNone sees to it that Take tells the error, and nothing beside it.
func takesNone(t *testing.T, b []byte, at int, want api.Errno) {
	t.Helper()
	if v, next, e := codec.Take(b, at); e != want || next != 0 || show(v) != show(api.Val{}) {
		t.Errorf("Take of %s at %d: %s, %d, %d, want error %d", short(b), at, short(v), next, int(e), int(want))
	}
}

// gets sees to it that b are the bytes of v, and are told by Put, too.
func gets(t *testing.T, b []byte, want api.Val) {
	t.Helper()
	if v, e := codec.Get(b); e != api.OK || show(v) != show(want) {
		t.Errorf("Get of %s: %s, %d, want %s", short(b), short(v), int(e), short(want))
	}
	if x, e := codec.Put(want); e != api.OK || !slices.Equal(x, b) {
		t.Errorf("Put of %s: %s, %d, want %s", short(want), short(x), int(e), short(b))
	}
}

// getsNone sees to it that Get and Take tell the error of b: by itself, and with a place ahead of it.
func getsNone(t *testing.T, want api.Errno, parts ...any) {
	t.Helper()
	b := raw(parts...)
	if v, e := codec.Get(b); e != want || show(v) != show(api.Val{}) {
		t.Errorf("Get of %s: %s, %d, want error %d", short(b), short(v), int(e), int(want))
	}
	takesNone(t, b, 0, want)
	takesNone(t, raw(6, 255, b), 2, want)
}

// putsNone sees to it that Put tells the error of v.
func putsNone(t *testing.T, v api.Val, want api.Errno) {
	t.Helper()
	if b, e := codec.Put(v); e != want || len(b) != 0 {
		t.Errorf("Put of %s: %s, %d, want error %d", short(v), short(b), int(e), int(want))
	}
}

// random makes a good value of at most that depth.
func random(r *rand.Rand, depth int) api.Val {
	texts := []string{"", "a", "a\x00", "ab", "\u00e4", "\u20ac", "\U0001f600", as(130)}
	names := []string{"\x00", "a", "aa", "b", "\u00e4"}
	return sample.Maker{Chance: r, Texts: texts, Names: names}.Value(depth)
}
