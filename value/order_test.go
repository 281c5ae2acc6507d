package value_test

import (
	"hash/fnv"
	"math"
	"math/rand"
	"strings"
	"testing"

	"tidemark/api"
	"tidemark/value"
)

// compares sees to it that a stands so to b, and b the other way round to a.
func compares(t *testing.T, a, b api.Val, want int) {
	t.Helper()
	if c, e := value.Compare(a, b); c != want || e != api.OK {
		t.Errorf("Compare of %s and %s: %d, %d, want %d", short(a), short(b), c, int(e), want)
	}
	if c, e := value.Compare(b, a); c != -want || e != api.OK {
		t.Errorf("Compare of %s and %s: %d, %d, want %d", short(b), short(a), c, int(e), -want)
	}
}

// rising are values in their order.
var rising = []api.Val{
	null,
	boolean(0), boolean(1),
	number(math.MinInt64), number(math.MinInt64 + 1), number(-256), number(-2), number(-1), number(0), number(1), number(2), number(255), number(256), number(math.MaxInt64 - 1), number(math.MaxInt64),
	text(""), text("\x00"), text("\x00\x00"), text("0"), text("Z"), text("a"), text("a\x00"), text("aa"), text("ab"), text("b"), text("\x7f"), text("\u00e4"), text("\uffff"), text("\U00010000"),
	list(), list(null), list(null, null), list(null, doc()), list(boolean(0)), list(number(1)), list(number(1), number(0)), list(number(1), number(2)), list(number(2)), list(text("a")), list(text("ab")), list(list()), list(list(null)), list(list(null), null), list(list(number(7))), list(doc()),
	doc(),
	doc(field("a", null)),
	doc(field("a", null), field("b", null)),
	doc(field("a", null), field("b", number(1))),
	doc(field("a", null), field("bb", null)),
	doc(field("a", null), field("c", null)),
	doc(field("a", number(1))),
	doc(field("a", number(1)), field("b", null)),
	doc(field("a", number(2))),
	doc(field("a", list(number(1)))),
	doc(field("a", doc())),
	doc(field("a", doc(field("a", null)))),
	doc(field("a\x00", null)),
	doc(field("aa", null)),
	doc(field("b", null)),
	doc(field("\u00e4", null)),
}

// P2.2, P2.4: each value against each: 0 just of the same.
func TestOrder(t *testing.T) {
	for i, a := range rising {
		compares(t, a, a, 0)
		for _, b := range rising[i+1:] {
			compares(t, a, b, -1)
			compares(t, list(number(1), a), list(number(1), b), -1)
			compares(t, list(a, doc()), list(b), -1)
			compares(t, doc(field("x", a), field("y", doc())), doc(field("x", b)), -1)
			compares(t, doc(field("w", null), field("x", a)), doc(field("w", null), field("x", b)), -1)
		}
	}
}

// P2.2: a name is told ahead of its value, and the first field that differs ahead of those behind it.
func TestOrderOfFields(t *testing.T) {
	compares(t, doc(field("a", number(9))), doc(field("b", number(1))), -1)
	compares(t, doc(field("a", number(1)), field("b", number(9))), doc(field("a", number(2)), field("b", number(1))), -1)
	compares(t, doc(field("a", number(1)), field("c", number(1))), doc(field("a", number(1)), field("b", number(9))), 1)
	compares(t, doc(field("b", null)), doc(field("a", null), field("b", null)), 1)
	compares(t, list(number(9)), list(number(10)), -1)
	compares(t, list(text("9")), list(text("10")), 1)
}

// P2.2: an error of a is told ahead of one of b, and nothing beside it.
func TestCompareErrors(t *testing.T) {
	bad := map[api.Errno]api.Val{
		api.ErrForm:  {},
		api.ErrText:  text("\xff"),
		api.ErrLimit: nulls(33),
		api.ErrDeep:  deepLists(9),
		api.ErrBig:   text(strings.Repeat("a", 2046)),
	}
	fails := func(a, b api.Val, want api.Errno) {
		t.Helper()
		if c, e := value.Compare(a, b); c != 0 || e != want {
			t.Errorf("Compare of %s and %s: %d, %d, want error %d", short(a), short(b), c, int(e), int(want))
		}
	}
	for e, x := range bad {
		fails(x, number(1), e)
		fails(number(1), x, e)
		fails(x, x, e)
		fails(list(x), text("z"), value.Good(list(x)))
		for _, y := range bad {
			fails(x, y, e)
		}
	}
}

// P2.2: hashes by their bytes, and some by their numbers.
func TestHash(t *testing.T) {
	for _, v := range append(rising, nulls(32), fields(32), deepLists(8), deepDocs(8), text(strings.Repeat("a", 2045)), text(strings.Repeat("\u00e4", 64)), number(-64), number(64), number(-65)) {
		f := fnv.New64a()
		f.Write(written(v))
		if h, e := value.Hash(v); h != f.Sum64() || e != api.OK {
			t.Errorf("Hash of %s: %d, %d, want %d", short(v), h, int(e), f.Sum64())
		}
	}
	for _, c := range []struct {
		v api.Val
		h uint64
	}{
		{null, 12638152016183539244},
		{number(1), 591638443913531312},
		{text("a"), 13160680399529899701},
		{number(math.MinInt64), 5425500402839332426},
		{list(), 585901192238661664},
	} {
		if h, e := value.Hash(c.v); h != c.h || e != api.OK {
			t.Errorf("Hash of %s: %d, %d, want %d", short(c.v), h, int(e), c.h)
		}
	}
}

// P2.4: an order: the other way round, over a third one, 0 just of the same; the same have one hash.
func TestOrderByChance(t *testing.T) {
	r := rand.New(rand.NewSource(5))
	order := func(a, b api.Val) int {
		c, e := value.Compare(a, b)
		if e != api.OK || c < -1 || c > 1 {
			t.Fatalf("Compare of %s and %s: %d, %d", short(a), short(b), c, int(e))
		}
		return c
	}
	for range 20000 {
		a, b, c := random(r, 2, false), random(r, 2, false), random(r, 2, false)
		if order(a, b) != -order(b, a) || order(a, a) != 0 {
			t.Fatalf("%s, %s: not the other way round", show(a), show(b))
		}
		if (order(a, b) == 0) != (show(a) == show(b)) {
			t.Fatalf("%s, %s: 0 of others", show(a), show(b))
		}
		if order(a, b) <= 0 && order(b, c) <= 0 && (order(a, c) > 0 || order(a, c) == 0 && order(a, b) != 0) {
			t.Fatalf("%s, %s, %s: not over the second one", show(a), show(b), show(c))
		}
		h, _ := value.Hash(a)
		g, _ := value.Hash(b)
		if (h == g) != (order(a, b) == 0) {
			t.Fatalf("%s, %s: hashes %d, %d", show(a), show(b), h, g)
		}
	}
}

// P2.4: the same, told by lists that are nil or empty, have one place and one hash.
func TestEmptyIsNil(t *testing.T) {
	for _, kind := range []int{api.Null, api.Bool, api.Int, api.Text, api.List, api.Doc} {
		a, b := api.Val{Kind: kind}, api.Val{Kind: kind, L: []api.Val{}, F: make([]api.Field, 0, 3)}
		compares(t, a, b, 0)
		compares(t, list(a), list(b), 0)
		h, _ := value.Hash(a)
		if g, _ := value.Hash(b); g != h {
			t.Errorf("Kind %d: hashes %d, %d", kind, h, g)
		}
	}
}
