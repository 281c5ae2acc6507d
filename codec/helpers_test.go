package codec_test

import (
	"encoding/binary"
	"fmt"
	"math/rand"
	"slices"
	"strings"
	"testing"
	"unicode/utf8"

	"tidemark/api"
	"tidemark/codec"
)

var null = api.Val{Kind: api.Null}

func boolean(n int64) api.Val { return api.Val{Kind: api.Bool, N: n} }

func number(n int64) api.Val { return api.Val{Kind: api.Int, N: n} }

func text(s string) api.Val { return api.Val{Kind: api.Text, S: s} }

func list(l ...api.Val) api.Val { return api.Val{Kind: api.List, L: l} }

func doc(l ...api.Field) api.Val { return api.Val{Kind: api.Doc, F: l} }

func field(name string, v api.Val) api.Field { return api.Field{Name: name, V: v} }

// nulls is a List of n Nulls.
func nulls(n int) api.Val { return list(slices.Repeat([]api.Val{null}, n)...) }

// fields is a Doc of n fields with rising names.
func fields(n int) api.Val {
	d := doc()
	for i := range n {
		d.F = append(d.F, field(fmt.Sprintf("f%02d", i), null))
	}
	return d
}

// deepLists is n Lists within one another.
func deepLists(n int) api.Val {
	v := list()
	for range n - 1 {
		v = list(v)
	}
	return v
}

// deepDocs is n Docs within one another.
func deepDocs(n int) api.Val {
	v := doc()
	for range n - 1 {
		v = doc(field("a", v))
	}
	return v
}

// as is a text of n letters.
func as(n int) string { return strings.Repeat("a", n) }

// show tells all of a value; nil and an empty list alike.
func show(v api.Val) string {
	var l, f []string
	for _, x := range v.L {
		l = append(l, show(x))
	}
	for _, x := range v.F {
		f = append(f, fmt.Sprintf("%q:%s", x.Name, show(x.V)))
	}
	return fmt.Sprintf("<%d %d %q [%s] {%s}>", v.Kind, v.N, v.S, strings.Join(l, " "), strings.Join(f, " "))
}

// showReply tells all of a reply.
func showReply(r api.Reply) string {
	s := fmt.Sprint(int(r.E), " ", r.N)
	for _, v := range r.Docs {
		s += " " + show(v)
	}
	return s
}

// cut is the beginning of a text that is long.
func cut(s string) string {
	if len(s) > 200 {
		s = s[:200] + "..."
	}
	return s
}

// short is show, or bytes, cut off.
func short(x any) string {
	if v, ok := x.(api.Val); ok {
		return cut(show(v))
	}
	return cut(fmt.Sprint(x))
}

// raw puts bytes together: of numbers, texts and bytes as they are, of values as written has them.
func raw(parts ...any) []byte {
	var b []byte
	for _, p := range parts {
		switch x := p.(type) {
		case int:
			b = append(b, byte(x))
		case string:
			b = append(b, x...)
		case []byte:
			b = append(b, x...)
		case api.Val:
			b = append(b, written(x)...)
		default:
			panic(p)
		}
	}
	return b
}

// varint is a varint by another hand.
func varint(n uint64) []byte { return binary.AppendUvarint(nil, n) }

// written is a value's bytes by another hand.
func written(v api.Val) []byte {
	b := []byte{byte(v.Kind)}
	switch v.Kind {
	case api.Bool:
		b = append(b, byte(v.N))
	case api.Int:
		b = binary.AppendVarint(b, v.N)
	case api.Text:
		b = raw(b, varint(uint64(len(v.S))), v.S)
	case api.List:
		b = raw(b, varint(uint64(len(v.L))))
		for _, x := range v.L {
			b = raw(b, x)
		}
	case api.Doc:
		b = raw(b, varint(uint64(len(v.F))))
		for _, f := range v.F {
			b = raw(b, varint(uint64(len(f.Name))), f.Name, f.V)
		}
	}
	return b
}

// readNumber is Number by another hand.
func readNumber(b []byte, at int) (n uint64, next int, e api.Errno) {
	for i := at; i < len(b); i++ {
		c := b[i]
		if i-at == 9 && c > 1 || i > at && c == 0 {
			return 0, 0, api.ErrForm
		}
		if c < 128 {
			for k := i; k >= at; k-- {
				n = n*128 + uint64(b[k]%128)
			}
			return n, i + 1, api.OK
		}
	}
	return 0, 0, api.ErrEnd
}

// readText is a text, or a name, by another hand.
func readText(b []byte, at int, least, most uint64, wrong api.Errno) (s string, next int, e api.Errno) {
	n, at, e := readNumber(b, at)
	switch {
	case e != api.OK:
		return "", 0, e
	case n < least || n > most:
		return "", 0, wrong
	case at+int(n) > len(b):
		return "", 0, api.ErrEnd
	case !utf8.Valid(b[at : at+int(n)]):
		return "", 0, api.ErrText
	}
	return string(b[at : at+int(n)]), at + int(n), api.OK
}

// readParts is what stands in a List or a Doc by another hand, without the limit on all bytes.
func readParts(b []byte, at, depth int, v api.Val) (api.Val, int, api.Errno) {
	if depth > 8 {
		return api.Val{}, 0, api.ErrDeep
	}
	n, at, e := readNumber(b, at)
	if e == api.OK && n > 32 {
		e = api.ErrLimit
	}
	last := ""
	for i := uint64(0); i < n && e == api.OK; i++ {
		name := ""
		if v.Kind == api.Doc {
			name, at, e = readText(b, at, 1, 24, api.ErrLimit)
			if e == api.OK && i > 0 && name <= last {
				e = api.ErrForm
			}
			last = name
		}
		if e != api.OK {
			break
		}
		var x api.Val
		x, at, e = readValue(b, at, depth)
		if v.Kind == api.Doc {
			v.F = append(v.F, field(name, x))
		} else {
			v.L = append(v.L, x)
		}
	}
	if e != api.OK {
		return api.Val{}, 0, e
	}
	return v, at, api.OK
}

// readValue is a value that stands that deep by another hand, without the limit on all bytes.
func readValue(b []byte, at, depth int) (v api.Val, next int, e api.Errno) {
	if at == len(b) {
		return api.Val{}, 0, api.ErrEnd
	}
	v.Kind = int(b[at])
	next = at + 1
	var n uint64
	switch v.Kind {
	case api.Null:
	case api.Bool:
		if next == len(b) {
			e = api.ErrEnd
		} else if b[next] > 1 {
			e = api.ErrForm
		} else {
			v.N, next = int64(b[next]), next+1
		}
	case api.Int:
		n, next, e = readNumber(b, next)
		v.N = int64(n / 2)
		if n%2 == 1 {
			v.N = -int64(n/2) - 1
		}
	case api.Text:
		v.S, next, e = readText(b, next, 0, 2048, api.ErrBig)
	case api.List, api.Doc:
		v, next, e = readParts(b, next, depth+1, v)
	default:
		e = api.ErrForm
	}
	if e != api.OK {
		return api.Val{}, 0, e
	}
	return v, next, api.OK
}

// readTake is Take by another hand.
func readTake(b []byte, at int) (v api.Val, next int, e api.Errno) {
	if at < 0 || at > len(b) {
		return api.Val{}, 0, api.ErrArg
	}
	v, next, e = readValue(b, at, 0)
	if e == api.OK && next-at > 2048 {
		return api.Val{}, 0, api.ErrBig
	}
	return v, next, e
}

// takes sees to it that Take tells v and the place behind it.
func takes(t *testing.T, b []byte, at int, want api.Val, behind int) {
	t.Helper()
	if v, next, e := codec.Take(b, at); e != api.OK || next != behind || show(v) != show(want) {
		t.Errorf("Take of %s at %d: %s, %d, %d, want %s, %d", short(b), at, short(v), next, int(e), short(want), behind)
	}
}

// takesNone sees to it that Take tells the error, and nothing beside it.
func takesNone(t *testing.T, b []byte, at int, want api.Errno) {
	t.Helper()
	if v, next, e := codec.Take(b, at); e != want || next != 0 || show(v) != show(api.Val{}) {
		t.Errorf("Take of %s at %d: %s, %d, %d, want error %d", short(b), at, short(v), next, int(e), int(want))
	}
}

// gets sees to it that b are the bytes of v, and are told by Put, too.
func gets(t *testing.T, b []byte, want api.Val) {
	t.Helper()
	if v, e := codec.Get(b); e != api.OK || show(v) != show(want) {
		t.Errorf("Get of %s: %s, %d, want %s", short(b), short(v), int(e), short(want))
	}
	if x, e := codec.Put(want); e != api.OK || !slices.Equal(x, b) {
		t.Errorf("Put of %s: %s, %d, want %s", short(want), short(x), int(e), short(b))
	}
}

// getsNone sees to it that Get and Take tell the error of b: by itself, and with a place ahead of it.
func getsNone(t *testing.T, want api.Errno, parts ...any) {
	t.Helper()
	b := raw(parts...)
	if v, e := codec.Get(b); e != want || show(v) != show(api.Val{}) {
		t.Errorf("Get of %s: %s, %d, want error %d", short(b), short(v), int(e), int(want))
	}
	takesNone(t, b, 0, want)
	takesNone(t, raw(6, 255, b), 2, want)
}

// putsNone sees to it that Put tells the error of v.
func putsNone(t *testing.T, v api.Val, want api.Errno) {
	t.Helper()
	if b, e := codec.Put(v); e != want || len(b) != 0 {
		t.Errorf("Put of %s: %s, %d, want error %d", short(v), short(b), int(e), int(want))
	}
}

// random makes a good value of at most that depth.
func random(r *rand.Rand, depth int) api.Val {
	kind := 1 + r.Intn(6)
	if depth == 0 {
		kind = 1 + r.Intn(4)
	}
	v := api.Val{Kind: kind}
	switch kind {
	case api.Bool:
		v.N = int64(r.Intn(2))
	case api.Int:
		v.N = int64(r.Uint64()) >> r.Intn(64)
	case api.Text:
		v.S = []string{"", "a", "a\x00", "ab", "\u00e4", "\u20ac", "\U0001f600", as(130)}[r.Intn(8)]
	case api.List:
		for range r.Intn(4) {
			v.L = append(v.L, random(r, depth-1))
		}
	case api.Doc:
		for _, name := range []string{"\x00", "a", "aa", "b", "\u00e4"} {
			if r.Intn(2) == 0 {
				v.F = append(v.F, field(name, random(r, depth-1)))
			}
		}
	}
	return v
}
