package value_test

import (
	"encoding/binary"
	"fmt"
	"math/rand"
	"slices"
	"strings"
	"testing"

	"tidemark/api"
	"tidemark/value"
)

var null = api.Val{Kind: api.Null}

func boolean(n int64) api.Val { return api.Val{Kind: api.Bool, N: n} }

func number(n int64) api.Val { return api.Val{Kind: api.Int, N: n} }

func text(s string) api.Val { return api.Val{Kind: api.Text, S: s} }

func list(l ...api.Val) api.Val { return api.Val{Kind: api.List, L: l} }

func doc(l ...api.Field) api.Val { return api.Val{Kind: api.Doc, F: l} }

func field(name string, v api.Val) api.Field { return api.Field{Name: name, V: v} }

// nulls is a List of n Nulls.
func nulls(n int) api.Val { return list(slices.Repeat([]api.Val{null}, n)...) }

// fields is a Doc of n fields with rising names.
func fields(n int) api.Val {
	d := doc()
	for i := range n {
		d.F = append(d.F, field(fmt.Sprintf("f%05d", i), null))
	}
	return d
}

// deepLists is n Lists within one another.
func deepLists(n int) api.Val {
	v := list()
	for range n - 1 {
		v = list(v)
	}
	return v
}

// deepDocs is n Docs within one another.
func deepDocs(n int) api.Val {
	v := doc()
	for range n - 1 {
		v = doc(field("a", v))
	}
	return v
}

// show tells all of a value; nil and an empty list alike.
func show(v api.Val) string {
	var l, f []string
	for _, x := range v.L {
		l = append(l, show(x))
	}
	for _, x := range v.F {
		f = append(f, fmt.Sprintf("%q:%s", x.Name, show(x.V)))
	}
	return fmt.Sprintf("<%d %d %q [%s] {%s}>", v.Kind, v.N, v.S, strings.Join(l, " "), strings.Join(f, " "))
}

// short is show, cut off.
func short(v api.Val) string {
	s := show(v)
	if len(s) > 200 {
		s = s[:200] + "..."
	}
	return s
}

// isGood sees to it that Good, Size and Hash tell that error of v.
func isGood(t *testing.T, v api.Val, want api.Errno) {
	t.Helper()
	e := value.Good(v)
	n, f := value.Size(v)
	h, g := value.Hash(v)
	if e != want || f != want || g != want {
		t.Errorf("%s: Good %d, Size %d, Hash %d, want %d", short(v), int(e), int(f), int(g), int(want))
	}
	if want != api.OK && (n != 0 || h != 0) {
		t.Errorf("%s: Size %d, Hash %d beside an error", short(v), n, h)
	}
}

// written is a value's bytes, as chapter 3 has them.
func written(v api.Val) []byte {
	b := []byte{byte(v.Kind)}
	switch v.Kind {
	case api.Bool:
		b = append(b, byte(v.N))
	case api.Int:
		b = binary.AppendVarint(b, v.N)
	case api.Text:
		b = append(b, writtenText(v.S)...)
	case api.List:
		b = binary.AppendUvarint(b, uint64(len(v.L)))
		for _, x := range v.L {
			b = append(b, written(x)...)
		}
	case api.Doc:
		b = binary.AppendUvarint(b, uint64(len(v.F)))
		for _, f := range v.F {
			b = append(b, writtenText(f.Name)...)
			b = append(b, written(f.V)...)
		}
	}
	return b
}

// writtenText is a text's bytes with their number ahead.
func writtenText(s string) []byte {
	return append(binary.AppendUvarint(nil, uint64(len(s))), s...)
}

// random makes a value of at most that depth; a bad one at times, if it may be.
func random(r *rand.Rand, depth int, bad bool) api.Val {
	kind := 1 + r.Intn(6)
	if depth == 0 {
		kind = 1 + r.Intn(4)
	}
	v := api.Val{Kind: kind}
	switch kind {
	case api.Bool:
		v.N = int64(r.Intn(2))
	case api.Int:
		v.N = int64(r.Uint64()) >> r.Intn(64)
	case api.Text:
		v.S = []string{"", "a", "a\x00", "ab", "\u00e4", "\u20ac", "\U0001f600"}[r.Intn(7)]
	case api.List:
		for range r.Intn(4) {
			v.L = append(v.L, random(r, depth-1, bad))
		}
	case api.Doc:
		for _, name := range []string{"\x00", "a", "aa", "b", "\u00e4"} {
			if r.Intn(2) == 0 {
				v.F = append(v.F, field(name, random(r, depth-1, bad)))
			}
		}
	}
	if bad && r.Intn(12) == 0 {
		v = spoilt(r, v)
	}
	return v
}

// spoilt puts some fault into a value.
func spoilt(r *rand.Rand, v api.Val) api.Val {
	switch r.Intn(11) {
	case 0:
		v.Kind = []int{0, 7, -1, 1 << 40}[r.Intn(4)]
	case 1:
		v.N = int64(r.Intn(5)) - 2
	case 2:
		v.S = "\xff"
	case 3:
		v.L = append(v.L, null)
	case 4:
		v.F = append(v.F, field("a", null))
	case 5:
		v = text("\xc3")
	case 6:
		v.Kind, v.F = api.Doc, append(v.F, field("\xf8", null))
	case 7:
		v = nulls(33)
	case 8:
		v = doc(field([]string{"", strings.Repeat("n", 25)}[r.Intn(2)], v))
	case 9:
		v = list(deepLists(6), v)
	case 10:
		v = list(text(strings.Repeat("a", 2040)), v)
	}
	return v
}
