package value_test

import (
	"encoding/binary"
	"math/rand"
	"strings"
	"testing"

	"tidemark/api"
	"tidemark/sample"
	"tidemark/value"
)

// The values that the tests are made of, by short names.
var (
	null, boolean, number, text = sample.Null(), sample.Bool, sample.Int, sample.Text
	list, doc, field            = sample.List, sample.Doc, sample.Field
	nulls, fields               = sample.Nulls, sample.Fields
	deepLists, deepDocs         = sample.DeepLists, sample.DeepDocs
	show, short                 = sample.Show, sample.Short
	withRoom, showRoom          = sample.WithRoom, sample.ShowRoom
)

// isGood sees to it that Good, Size and Hash tell that error of v.
func isGood(t *testing.T, v api.Val, want api.Errno) {
	t.Helper()
	e := value.Good(v)
	n, f := value.Size(v)
	h, g := value.Hash(v)
	if e != want || f != want || g != want {
		t.Errorf("%s: Good %d, Size %d, Hash %d, want %d", short(v), int(e), int(f), int(g), int(want))
	}
	if want != api.OK && (n != 0 || h != 0) {
		t.Errorf("%s: Size %d, Hash %d beside an error", short(v), n, h)
	}
}

// written is a value's bytes, as chapter 3 has them.
func written(v api.Val) []byte {
	b := []byte{byte(v.Kind)}
	switch v.Kind {
	case api.Bool:
		b = append(b, byte(v.N))
	case api.Int:
		b = binary.AppendVarint(b, v.N)
	case api.Text:
		b = append(b, writtenText(v.S)...)
	case api.List:
		b = binary.AppendUvarint(b, uint64(len(v.L)))
		for _, x := range v.L {
			b = append(b, written(x)...)
		}
	case api.Doc:
		b = binary.AppendUvarint(b, uint64(len(v.F)))
		for _, f := range v.F {
			b = append(b, writtenText(f.Name)...)
			b = append(b, written(f.V)...)
		}
	}
	return b
}

// writtenText is a text's bytes with their number ahead.
func writtenText(s string) []byte {
	return append(binary.AppendUvarint(nil, uint64(len(s))), s...)
}

// random makes a value of at most that depth; a bad one at times, if it may be.
func random(r *rand.Rand, depth int, bad bool) api.Val {
	texts := []string{"", "a", "a\x00", "ab", "\u00e4", "\u20ac", "\U0001f600"}
	names := []string{"\x00", "a", "aa", "b", "\u00e4"}
	spoil := func(v api.Val) api.Val {
		if bad && r.Intn(12) == 0 {
			return spoilt(r, v)
		}
		return v
	}
	return sample.Maker{Chance: r, Texts: texts, Names: names, Spoil: spoil}.Value(depth)
}

// spoilt puts some fault into a value.
func spoilt(r *rand.Rand, v api.Val) api.Val {
	switch r.Intn(11) {
	case 0:
		v.Kind = []int{0, 7, -1, 1 << 40}[r.Intn(4)]
	case 1:
		v.N = int64(r.Intn(5)) - 2
	case 2:
		v.S = "\xff"
	case 3:
		v.L = append(v.L, null)
	case 4:
		v.F = append(v.F, field("a", null))
	case 5:
		v = text("\xc3")
	case 6:
		v.Kind, v.F = api.Doc, append(v.F, field("\xf8", null))
	case 7:
		v = nulls(33)
	case 8:
		v = doc(field([]string{"", strings.Repeat("n", 25)}[r.Intn(2)], v))
	case 9:
		v = list(deepLists(6), v)
	case 10:
		v = list(text(strings.Repeat("a", 2040)), v)
	}
	return v
}
