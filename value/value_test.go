package value_test

import (
	"hash/fnv"
	"math"
	"math/rand"
	"slices"
	"strings"
	"testing"
	"unicode/utf8"

	"tidemark/api"
	"tidemark/value"
)

// The chapter's examples.
func TestExamples(t *testing.T) {
	isGood(t, number(5), api.OK)
	isGood(t, boolean(2), api.ErrForm)
	isGood(t, doc(field("b", null), field("a", null)), api.ErrForm)
	isGood(t, text("\xff"), api.ErrText)
	isGood(t, nulls(33), api.ErrLimit)
	sized(t, null, 1)
	sized(t, number(1), 2)
	sized(t, text("a"), 3)
	sized(t, doc(field("a", list(number(1)))), 8)
	compares(t, number(1), text("a"), -1)
	compares(t, list(number(1)), list(number(1), number(0)), -1)
	compares(t, doc(field("a", number(2))), doc(field("b", number(1))), -1)
	if h, e := value.Hash(null); h != 12638152016183539244 || e != api.OK {
		t.Errorf("Hash: %d, %d", h, int(e))
	}
	v := list(list(number(1)), number(2))
	if d, n := value.Depth(v), value.Count(v); d != 2 || n != 4 {
		t.Errorf("Depth %d, Count %d", d, n)
	}
}

func sized(t *testing.T, v api.Val, want int) {
	t.Helper()
	if n, e := value.Size(v); n != want || e != api.OK {
		t.Errorf("Size of %s: %d, %d, want %d", short(v), n, int(e), want)
	}
}

// everywhere are ways to put a value within another one.
var everywhere = []func(api.Val) api.Val{
	func(v api.Val) api.Val { return v },
	func(v api.Val) api.Val { return list(v) },
	func(v api.Val) api.Val { return list(null, list(), v) },
	func(v api.Val) api.Val { return list(v, null) },
	func(v api.Val) api.Val { return doc(field("a", v)) },
	func(v api.Val) api.Val { return doc(field("a", null), field("b", v), field("c", null)) },
	func(v api.Val) api.Val { return doc(field("a", list(doc(field("b", list(v)))))) },
	func(v api.Val) api.Val { return list(null, doc(field("a", null), field("b", doc(field("c", v))))) },
}

// P2.1: what is good by itself is good within others; what is not, is not, with the same error.
func TestGoodByItselfAndWithin(t *testing.T) {
	long := strings.Repeat("n", 24)
	for _, c := range []struct {
		v api.Val
		e api.Errno
	}{
		{null, api.OK},
		{boolean(0), api.OK},
		{boolean(1), api.OK},
		{number(0), api.OK},
		{number(math.MinInt64), api.OK},
		{number(math.MaxInt64), api.OK},
		{text(""), api.OK},
		{text("a\x00\u00e4\u20ac\U0001f600"), api.OK},
		{list(), api.OK},
		{doc(), api.OK},
		{doc(field("a", null), field("aa", null), field("b", null)), api.OK},
		{doc(field("Z", null), field("a", null), field("\u00e4", null)), api.OK},

		{api.Val{}, api.ErrForm},
		{api.Val{Kind: -1}, api.ErrForm},
		{api.Val{Kind: 7}, api.ErrForm},
		{api.Val{Kind: math.MaxInt}, api.ErrForm},
		{api.Val{Kind: math.MinInt}, api.ErrForm},
		{api.Val{Kind: 256 + api.Null}, api.ErrForm},
		{boolean(2), api.ErrForm},
		{boolean(-1), api.ErrForm},
		{boolean(math.MinInt64), api.ErrForm},
		{doc(field("b", null), field("a", null)), api.ErrForm},
		{doc(field("a", null), field("a", null)), api.ErrForm},
		{doc(field("a", null), field("c", null), field("b", null)), api.ErrForm},
		{doc(field("aa", null), field("a", null)), api.ErrForm},
		{doc(field("a", null), field("", null)), api.ErrForm},
		{doc(field("", null), field("", null)), api.ErrForm},
		{doc(field("\u00e4", null), field("z", null)), api.ErrForm},

		{text("\xff"), api.ErrText},
		{text("a\xc3"), api.ErrText},
		{text("\xed\xa0\x80"), api.ErrText},
		{text("\xc0\x80"), api.ErrText},
		{doc(field("\xff", null)), api.ErrText},
		{doc(field("a", null), field("b\x80", null)), api.ErrText},

		{nulls(32), api.OK},
		{nulls(33), api.ErrLimit},
		{fields(32), api.OK},
		{fields(33), api.ErrLimit},
		{doc(field("", null)), api.ErrLimit},
		{doc(field("", null), field("a", null)), api.ErrLimit},
		{doc(field("n", null)), api.OK},
		{doc(field(long, null)), api.OK},
		{doc(field(long+"n", null)), api.ErrLimit},
		{doc(field("a", null), field(long+"n", null)), api.ErrLimit},
		{doc(field(strings.Repeat("\u00e4", 12), null)), api.OK},
		{doc(field(strings.Repeat("\u00e4", 12)+"n", null)), api.ErrLimit},
		{doc(field(strings.Repeat("\u20ac", 8)+"n", null)), api.ErrLimit},
	} {
		for _, put := range everywhere {
			isGood(t, put(c.v), c.e)
		}
	}
}

// P2.1: each part that a Kind does not name must be zero or empty.
func TestUnusedParts(t *testing.T) {
	spoil := []func(*api.Val){
		func(v *api.Val) { v.N = 1 },
		func(v *api.Val) { v.N = -1 << 63 },
		func(v *api.Val) { v.S = "a" },
		func(v *api.Val) { v.L = []api.Val{null} },
		func(v *api.Val) { v.F = []api.Field{field("a", null)} },
	}
	named := map[int][]int{api.Null: {}, api.Bool: {0}, api.Int: {0, 1}, api.Text: {2}, api.List: {3}, api.Doc: {4}}
	for kind, names := range named {
		for i, s := range spoil {
			v, want := api.Val{Kind: kind}, api.ErrForm
			s(&v)
			if slices.Contains(names, i) {
				want = api.OK
			}
			if kind == api.Bool && i == 1 {
				want = api.ErrForm
			}
			for _, put := range everywhere {
				isGood(t, put(v), want)
			}
		}
		isGood(t, api.Val{Kind: kind, L: []api.Val{}, F: []api.Field{}}, api.OK)
	}
}

// P2.1: of two faults the one that the chapter lists first is told, wherever they stand.
func TestTwoFaults(t *testing.T) {
	faults := []struct {
		e api.Errno
		l []api.Val
	}{
		{api.ErrForm, []api.Val{{}, boolean(2), {Kind: api.Int, S: "a"}, doc(field("b", null), field("a", null))}},
		{api.ErrText, []api.Val{text("\xff"), doc(field("\xff", null))}},
		{api.ErrLimit, []api.Val{nulls(33), fields(33), doc(field("", null)), doc(field(strings.Repeat("n", 25), null))}},
		{api.ErrDeep, []api.Val{deepLists(9), deepDocs(9)}},
		{api.ErrBig, []api.Val{text(strings.Repeat("a", 2046)), list(text(strings.Repeat("a", 2044)))}},
	}
	for i, a := range faults {
		for _, b := range faults[i:] {
			for _, x := range a.l {
				for _, y := range b.l {
					isGood(t, list(x, y), a.e)
					isGood(t, list(y, x), a.e)
					isGood(t, doc(field("a", x), field("b", y)), a.e)
					isGood(t, doc(field("a", list(y)), field("b", x)), a.e)
					isGood(t, doc(field("a", y), field("b", list(doc(field("c", x))))), a.e)
				}
			}
		}
	}
}

// P2.1: two faults of one value, and of a value and one within it.
func TestTwoFaultsOfOne(t *testing.T) {
	long := strings.Repeat("n", 25)
	bad := fields(33)
	bad.F[32].Name = "a"
	isGood(t, bad, api.ErrForm)
	isGood(t, doc(field("\xff", null), field("\xfe", null)), api.ErrForm)
	isGood(t, doc(field("", null), field("", null)), api.ErrForm)
	isGood(t, doc(field(long, text("\xff")), field("a", null)), api.ErrForm)
	isGood(t, api.Val{Kind: api.Text, S: "\xff", N: 1}, api.ErrForm)
	isGood(t, api.Val{Kind: api.List, L: nulls(33).L, S: "\xff"}, api.ErrForm)
	isGood(t, doc(field(long+"\xff", null)), api.ErrText)
	isGood(t, doc(field(long, text("\xff"))), api.ErrText)
	isGood(t, doc(field("", null), field("\xff", null)), api.ErrText)
	isGood(t, list(append(nulls(32).L, text("\xff"))...), api.ErrText)
	isGood(t, list(append(nulls(32).L, deepLists(8))...), api.ErrLimit)
	isGood(t, doc(field("", deepDocs(8))), api.ErrLimit)
	isGood(t, text(strings.Repeat("a", 3000)+"\xff"), api.ErrText)
	isGood(t, doc(field(strings.Repeat("n", 3000), null)), api.ErrLimit)
	isGood(t, list(text(strings.Repeat("a", 3000)), deepLists(8)), api.ErrDeep)
	isGood(t, nulls(3000), api.ErrLimit)
	isGood(t, deepLists(3000), api.ErrDeep)
	v := boolean(2)
	for range 3000 {
		v = doc(field("", list(v, text("\xff"))))
	}
	isGood(t, v, api.ErrForm)
}

// P2.1: eight within one another are well, nine are not.
func TestDepthLimit(t *testing.T) {
	for n := 1; n <= 12; n++ {
		want := api.OK
		if n > 8 {
			want = api.ErrDeep
		}
		isGood(t, deepLists(n), want)
		isGood(t, deepDocs(n), want)
		mixed := number(1)
		for i := range n {
			if i%2 == 0 {
				mixed = list(null, mixed)
			} else {
				mixed = doc(field("a", null), field("b", mixed))
			}
		}
		isGood(t, mixed, want)
		isGood(t, list(deepLists(n)), value.Good(deepLists(n+1)))
	}
}

// filled is a List or a Doc that has that many bytes (from 40 to some 10000), in texts of at most that length.
func filled(bytes, length int, inDoc bool) api.Val {
	v := list()
	for i := 0; ; i++ {
		if inDoc {
			v = doc(append(slices.Clone(v.F), field(string(rune('a'+i)), text("")))...)
		} else {
			v = list(append(slices.Clone(v.L), text(""))...)
		}
		last := &api.Val{}
		if inDoc {
			last = &v.F[i].V
		} else {
			last = &v.L[i]
		}
		for len(written(v)) < bytes && len(last.S) < length {
			last.S += strings.Repeat("x", max(1, min(length-len(last.S), bytes-len(written(v))-2)))
		}
		if len(written(v)) >= bytes {
			return v
		}
	}
}

// P2.1: 2048 bytes are well, one more is not, in whatever parts.
func TestBytesLimit(t *testing.T) {
	sized(t, text(strings.Repeat("a", 2045)), 2048)
	isGood(t, text(strings.Repeat("a", 2046)), api.ErrBig)
	sized(t, text(strings.Repeat("\u00e4", 1022)), 2047)
	isGood(t, text(strings.Repeat("\u00e4", 1023)), api.ErrBig)
	for _, length := range []int{100, 127, 150, 400, 2000} {
		for _, inDoc := range []bool{false, true} {
			for bytes := 2040; bytes < 2056; bytes++ {
				v := filled(bytes, length, inDoc)
				if n := len(written(v)); n <= 2048 {
					sized(t, v, n)
				} else {
					isGood(t, v, api.ErrBig)
				}
			}
		}
	}
}

// P2.1: at how many bytes a number, and what it counts, takes one digit more.
func TestSizes(t *testing.T) {
	for n := range 9 {
		edge := int64(1) << (7*n + 6)
		for _, x := range []int64{edge - 1, edge, -edge, -edge - 1} {
			sized(t, number(x), len(written(number(x))))
		}
	}
	for _, c := range []struct {
		n    int64
		size int
	}{{0, 2}, {-1, 2}, {63, 2}, {-64, 2}, {64, 3}, {-65, 3}, {8191, 3}, {-8192, 3}, {8192, 4}, {1<<62 - 1, 10}, {1 << 62, 11}, {math.MaxInt64, 11}, {math.MinInt64, 11}} {
		sized(t, number(c.n), c.size)
	}
	for _, n := range []int{0, 1, 127, 128, 129, 2000} {
		want := 2 + n
		if n > 127 {
			want++
		}
		sized(t, text(strings.Repeat("a", n)), want)
	}
	sized(t, boolean(0), 2)
	sized(t, boolean(1), 2)
	sized(t, list(), 2)
	sized(t, doc(), 2)
	sized(t, nulls(32), 34)
	sized(t, fields(32), 2+32*8)
	sized(t, doc(field(strings.Repeat("n", 24), null)), 2+25+1)
	r := rand.New(rand.NewSource(1))
	for range 3000 {
		v := random(r, 4, false)
		sized(t, v, len(written(v)))
	}
}

// P2.1: Depth and Count of values, good or not: parts are those of a List or a Doc alone.
func TestDepthAndCount(t *testing.T) {
	for _, c := range []struct {
		v            api.Val
		depth, count int
	}{
		{null, 0, 1},
		{boolean(7), 0, 1},
		{number(3), 0, 1},
		{text("\xff"), 0, 1},
		{api.Val{}, 0, 1},
		{api.Val{Kind: 7, L: []api.Val{null}, F: []api.Field{{}}}, 0, 1},
		{api.Val{Kind: api.Text, L: []api.Val{list()}}, 0, 1},
		{api.Val{Kind: api.Null, F: []api.Field{field("a", list())}}, 0, 1},
		{api.Val{Kind: api.List, F: []api.Field{field("a", list())}}, 1, 1},
		{api.Val{Kind: api.Doc, L: []api.Val{list(list())}}, 1, 1},
		{api.Val{Kind: api.List, L: []api.Val{null}, F: []api.Field{field("a", list(list()))}}, 1, 2},
		{list(), 1, 1},
		{doc(), 1, 1},
		{list(null, number(1)), 1, 3},
		{doc(field("a", null), field("b", null)), 1, 3},
		{doc(field("b", null), field("b", list())), 2, 3},
		{doc(field("", doc())), 2, 2},
		{list(list(list()), null, list()), 3, 5},
		{list(null, list(), list(list())), 3, 5},
		{list(list(), doc(field("a", list(null)), field("b", null))), 3, 6},
		{doc(field("a", list(null)), field("b", number(1))), 2, 4},
		{nulls(33), 1, 34},
		{fields(40), 1, 41},
		{deepLists(8), 8, 8},
		{deepLists(9), 9, 9},
		{deepDocs(9), 9, 9},
		{deepDocs(1000), 1000, 1000},
	} {
		if d, n := value.Depth(c.v), value.Count(c.v); d != c.depth || n != c.count {
			t.Errorf("%s: Depth %d, Count %d, want %d, %d", short(c.v), d, n, c.depth, c.count)
		}
	}
}

// faults marks each fault of v and of all within that is no matter of depth or bytes.
func faults(v api.Val, found map[api.Errno]bool) {
	zero := map[string]bool{"N": v.N == 0, "S": v.S == "", "L": len(v.L) == 0, "F": len(v.F) == 0}
	used := map[int]string{api.Null: "", api.Bool: "N", api.Int: "N", api.Text: "S", api.List: "L", api.Doc: "F"}
	name, ok := used[v.Kind]
	for part, empty := range zero {
		ok = ok && (empty || part == name)
	}
	ok = ok && (v.Kind != api.Bool || v.N == 0 || v.N == 1)
	found[api.ErrText] = found[api.ErrText] || v.Kind == api.Text && !utf8.ValidString(v.S)
	found[api.ErrLimit] = found[api.ErrLimit] || v.Kind == api.List && len(v.L) > 32 || v.Kind == api.Doc && len(v.F) > 32
	if v.Kind == api.List {
		for _, x := range v.L {
			faults(x, found)
		}
	}
	if v.Kind == api.Doc {
		for i, f := range v.F {
			ok = ok && (i == 0 || v.F[i-1].Name < f.Name)
			found[api.ErrText] = found[api.ErrText] || !utf8.ValidString(f.Name)
			found[api.ErrLimit] = found[api.ErrLimit] || len(f.Name) < 1 || len(f.Name) > 24
			faults(f.V, found)
		}
	}
	found[api.ErrForm] = found[api.ErrForm] || !ok
}

// firstFault is what Good is to tell.
func firstFault(v api.Val) api.Errno {
	found := map[api.Errno]bool{}
	faults(v, found)
	found[api.ErrDeep] = value.Depth(v) > 8
	found[api.ErrBig] = len(written(v)) > 2048
	for _, e := range []api.Errno{api.ErrForm, api.ErrText, api.ErrLimit, api.ErrDeep, api.ErrBig} {
		if found[e] {
			return e
		}
	}
	return api.OK
}

// P2.1, P2.2: values made by chance, with faults here and there: the errors, the sizes, the hashes.
func TestValuesByChance(t *testing.T) {
	r := rand.New(rand.NewSource(2))
	seen := map[api.Errno]int{}
	for range 20000 {
		v := random(r, 4, true)
		want := firstFault(v)
		seen[want]++
		isGood(t, v, want)
		if want != api.OK {
			continue
		}
		b := written(v)
		f := fnv.New64a()
		f.Write(b)
		n, _ := value.Size(v)
		if h, _ := value.Hash(v); n != len(b) || h != f.Sum64() {
			t.Errorf("%s: Size %d, Hash %d, want %d, %d", short(v), n, h, len(b), f.Sum64())
		}
	}
	for _, e := range []api.Errno{api.OK, api.ErrForm, api.ErrText, api.ErrLimit, api.ErrDeep, api.ErrBig} {
		if seen[e] < 20 {
			t.Errorf("error %d is met %d times: too few to tell anything", int(e), seen[e])
		}
	}
}
