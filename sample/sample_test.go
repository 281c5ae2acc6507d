package sample_test

import (
	"math"
	"math/rand"
	"slices"
	"strings"
	"testing"

	"tidemark/api"
	"tidemark/sample"
	"tidemark/value"
)

// Show and ShowRoom tell values apart; of nil and an empty list Show tells the same.
func TestShow(t *testing.T) {
	l := []api.Val{{}, sample.Null(), sample.Bool(0), sample.Int(-5), sample.Int(0), sample.Text(""), sample.Text("0"), sample.List(), sample.List(sample.Null()), sample.Doc(), sample.Doc(sample.Field("a", sample.Null())), sample.Doc(sample.Field("b", sample.Null())), sample.Doc(sample.Field("a", sample.List())), sample.List(sample.List(sample.Null()), sample.Null()), sample.List(sample.List(sample.Null(), sample.Null()))}
	for i, a := range l {
		for k, b := range l {
			if (sample.Show(a) == sample.Show(b)) != (i == k) || (sample.ShowRoom(a) == sample.ShowRoom(b)) != (i == k) {
				t.Errorf("%s and %s", sample.Show(a), sample.Show(b))
			}
		}
		r := sample.WithRoom(a)
		if sample.Show(r) != sample.Show(a) || sample.ShowRoom(r) == sample.ShowRoom(a) {
			t.Errorf("%s with room: %s", sample.Show(a), sample.ShowRoom(r))
		}
	}
	if a, b := (api.Val{L: []api.Val{}, F: []api.Field{}}), (api.Val{}); sample.Show(a) != sample.Show(b) {
		t.Errorf("%s, %s", sample.Show(a), sample.Show(b))
	}
	if s := sample.Letters(200); sample.Cut(s) != s || sample.Cut(s+"b") != s+"..." {
		t.Error("Cut")
	}
}

// Apart knows lists that share memory, be it spare room, from those that do not.
func TestApart(t *testing.T) {
	nested := func() []api.Val {
		l := sample.Nested()
		for i, v := range l {
			l[i] = sample.WithRoom(v)
		}
		return l
	}
	if !sample.Apart(nested()) || !sample.Apart(nested(), make([]byte, 3), make([]byte, 0, 3), nil) {
		t.Error("what lies apart is told to share memory")
	}
	v, b := sample.WithRoom(sample.Nested()[0]), make([]byte, 3)
	shared := [][]api.Val{
		{v, v},
		{sample.List(v), sample.Doc(sample.Field("a", v))},
		{{L: v.F[0].V.L[:0]}, v},
		{{F: v.F[:0]}, v},
		{{F: v.F[2:2]}, v},
	}
	for i, l := range shared {
		if sample.Apart(l) {
			t.Errorf("%d: what shares memory is told to lie apart", i)
		}
	}
	if sample.Apart(nil, b, b) || sample.Apart(nil, b[:0], b[2:]) {
		t.Error("bytes that share memory are told to lie apart")
	}
}

// The values are as good as their names say.
func TestGoodAndBad(t *testing.T) {
	for _, v := range append(sample.Nested(), sample.Nulls(32), sample.Fields(32), sample.DeepLists(8), sample.DeepDocs(8), sample.Text(sample.Letters(2045))) {
		if e := value.Good(v); e != api.OK {
			t.Errorf("%s: %d", sample.Short(v), int(e))
		}
	}
	for _, f := range append(sample.Bad(), sample.Fault{V: sample.Fields(100000), E: api.ErrLimit}) {
		if e := value.Good(f.V); e != f.E {
			t.Errorf("%s: %d, want %d", sample.Short(f.V), int(e), int(f.E))
		}
	}
	m := sample.Maker{Chance: rand.New(rand.NewSource(1)), Texts: []string{"x"}, Names: []string{"a", "b"}}
	seen := map[int]int{}
	for range 1000 {
		v := m.Value(3)
		seen[v.Kind]++
		if value.Good(v) != api.OK || value.Depth(v) > 3 {
			t.Errorf("%s", sample.Short(v))
		}
	}
	if len(seen) != 6 {
		t.Errorf("kinds: %v", seen)
	}
}

// Numbers tells the numbers it is handed with those beside them, and changes no list.
func TestNumbers(t *testing.T) {
	these := []int{7, 20, 30}
	l := sample.Numbers(these[:1]...)
	for _, n := range []int{6, 7, 8, -1, 0, 1, math.MinInt, math.MaxInt, math.MaxInt - 1, math.MinInt + 1, 1 << 31, 1<<32 - 1, -1 << 31} {
		if !slices.Contains(l, n) {
			t.Errorf("%d is missing", n)
		}
	}
	if slices.Contains(l, 20) || !slices.Equal(these, []int{7, 20, 30}) {
		t.Errorf("the numbers %d, of %d", l, these)
	}
}

// AnyText tells texts of all lengths below the one it is handed, of likely bytes and others.
func TestAnyText(t *testing.T) {
	r := rand.New(rand.NewSource(2))
	lengths, others, all := map[int]int{}, 0, 0
	for range 1000 {
		s := sample.AnyText(r, "ab", 10, 5)
		lengths[len(s)]++
		all += len(s)
		others += len(s) - strings.Count(s, "a") - strings.Count(s, "b")
	}
	if len(lengths) != 10 || lengths[10] != 0 || others < all/10 || others > all/3 {
		t.Errorf("lengths %v, %d of %d bytes", lengths, others, all)
	}
}
