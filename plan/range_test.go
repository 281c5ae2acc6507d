package plan_test

import (
	"fmt"
	"math/rand"
	"slices"
	"strings"
	"testing"

	"tidemark/api"
	"tidemark/plan"
	"tidemark/sample"
)

// every are values of every Kind as texts, the least and the greatest of a Kind among them.
var every = []string{`null`, `false`, `true`, `-9223372036854775808`, `-1`, `0`, `5`, `9223372036854775807`, `""`, `"a"`, `"a\u0000"`, `"\u0000"`, `[]`, `[null]`, `[[],"b"]`, `{}`, `{"a":1}`, `{"a":{"b":[]}}`}

// P18.1: the bounds of a test by itself, byte by byte.
func TestBoundsOfOne(t *testing.T) {
	ranges(t, "x = null", "x", []byte{10}, []byte{11}, 1)
	ranges(t, "x < null", "x", []byte{10}, []byte{10}, 1)
	ranges(t, "x <= null", "x", []byte{10}, []byte{11}, 1)
	ranges(t, "x > null", "x", []byte{11}, []byte{11}, 1)
	ranges(t, "x >= null", "x", []byte{10}, []byte{11}, 1)
	ranges(t, "x = false", "x", []byte{20, 0}, []byte{20, 1}, 1)
	ranges(t, "x < false", "x", []byte{20}, []byte{20, 0}, 1)
	ranges(t, "x <= false", "x", []byte{20}, []byte{20, 1}, 1)
	ranges(t, "x > true", "x", []byte{20, 2}, []byte{21}, 1)
	ranges(t, "x >= true", "x", []byte{20, 1}, []byte{21}, 1)
	ranges(t, "x = 1", "x", []byte{30, 128, 0, 0, 0, 0, 0, 0, 1}, []byte{30, 128, 0, 0, 0, 0, 0, 0, 2}, 1)
	ranges(t, "x < 255", "x", []byte{30}, []byte{30, 128, 0, 0, 0, 0, 0, 0, 255}, 1)
	ranges(t, "x <= 255", "x", []byte{30}, []byte{30, 128, 0, 0, 0, 0, 0, 1}, 1)
	ranges(t, "x > 255", "x", []byte{30, 128, 0, 0, 0, 0, 0, 1}, []byte{31}, 1)
	ranges(t, "x >= -1", "x", []byte{30, 127, 255, 255, 255, 255, 255, 255, 255}, []byte{31}, 1)
	ranges(t, "x > -1", "x", []byte{30, 128}, []byte{31}, 1)
	ranges(t, "x = 9223372036854775807", "x", []byte{30, 255, 255, 255, 255, 255, 255, 255, 255}, []byte{31}, 1)
	ranges(t, "x > 9223372036854775807", "x", []byte{31}, []byte{31}, 1)
	ranges(t, `x = "a"`, "x", []byte{40, 97, 0, 0}, []byte{40, 97, 0, 1}, 1)
	ranges(t, `x > "a"`, "x", []byte{40, 97, 0, 1}, []byte{41}, 1)
	ranges(t, `x < ""`, "x", []byte{40}, []byte{40, 0, 0}, 1)
	ranges(t, "x <= [true]", "x", []byte{50}, []byte{50, 1, 20, 1, 1}, 1)
	ranges(t, "x >= []", "x", []byte{50, 0}, []byte{51}, 1)
	ranges(t, `x = {"a":null}`, "x", []byte{60, 1, 97, 0, 0, 10, 0}, []byte{60, 1, 97, 0, 0, 10, 1}, 1)
	ranges(t, "x > {}", "x", []byte{60, 1}, []byte{61}, 1)
}

// P18.1: each sign with a V of each Kind; of each path that has the test, be it `id` or a longer one.
func TestRangeOfOne(t *testing.T) {
	for _, p := range []string{"x", "id", "a.b.0", "0", "a.b.c.d.e.f.g.h"} {
		for _, s := range every {
			k := keyOf(s)
			first, next := []byte{k[0]}, []byte{k[0] + 1}
			ranges(t, p+" = "+s, p, k, above(k), 1)
			ranges(t, p+" < "+s, p, first, k, 1)
			ranges(t, p+" <= "+s, p, first, above(k), 1)
			ranges(t, p+" > "+s, p, above(k), next, 1)
			ranges(t, p+" >= "+s, p, k, next, 1)
		}
	}
	long := test("x", "<=", text(letters(2045)))
	k := keyOfVal(long.V)
	is(t, "a long one", toldRange(plan.Range(long, "x")), toldRange([]byte{40}, above(k), 1, api.OK))
}

// P18.1: tests that have no range, by themselves and beside one that has one.
func TestNoRange(t *testing.T) {
	none := []string{"x exists", "x in []", "x in [5]", "x in [null,[1]]"}
	for _, s := range every {
		none = append(none, "x != "+s)
	}
	k := keyOf("5")
	for _, s := range none {
		ranges(t, s, "x", nil, nil, 0)
		ranges(t, s+" and x = 5", "x", k, above(k), 1)
		ranges(t, "x >= 5 and "+s, "x", k, []byte{31}, 1)
		ranges(t, s+" and x < 5 and "+s, "x", []byte{30}, k, 1)
		ranges(t, s+" and "+s, "x", nil, nil, 0)
	}
}

// P18.1: no test names p: it is another path, the beginning of one, a longer one, or no path at all.
func TestRangeOfOtherPaths(t *testing.T) {
	const s = "x = 1 and y.z > 2 and id < 3 and x.y <= 4 and a.0 = 5"
	for _, p := range append([]string{"X", "xx", "y", "z", "y.z.a", "y.z.0", "id.x", "ID", "x.y.z", "a", "a.1", "0", "a.0.0", "x ", "x.y and x", "="}, sample.BadPaths()...) {
		ranges(t, s, p, nil, nil, 0)
		ranges(t, "", p, nil, nil, 0)
		ranges(t, "b = 1 or b = 1", p, nil, nil, 0)
	}
	ranges(t, s, "x", keyOf("1"), keyOf("2"), 1)
	ranges(t, s, "y.z", keyOf("3"), []byte{31}, 1)
	ranges(t, s, "id", []byte{30}, keyOf("3"), 1)
	ranges(t, s, "x.y", []byte{30}, keyOf("5"), 1)
	ranges(t, s, "a.0", keyOf("5"), keyOf("6"), 1)
}

// orders are all orders in which the parts may stand.
func orders(parts []string) [][]string {
	if len(parts) < 2 {
		return [][]string{parts}
	}
	var all [][]string
	for i, p := range parts {
		rest := slices.Delete(slices.Clone(parts), i, i+1)
		for _, o := range orders(rest) {
			all = append(all, append([]string{p}, o...))
		}
	}
	return all
}

// P18.1: of some tests of one path the greatest low and the least high, in whatever order they stand, tests of other paths among them, and of Kinds that differ.
func TestRangeOfSome(t *testing.T) {
	for _, c := range []struct {
		tests     string
		low, high []byte
		n         int
	}{
		{"x >= 2;x < 6", keyOf("2"), keyOf("6"), 2},
		{"x > 2;x <= 6", keyOf("3"), keyOf("7"), 2},
		{"x >= 2;x >= 4;x < 9;x < 7", keyOf("4"), keyOf("7"), 4},
		{"x > 1;x > 0;x > -1", keyOf("2"), []byte{31}, 3},
		{"x < 1;x <= 0;x < 2", []byte{30}, keyOf("1"), 3},
		{"x = 5;x > 2;x < 9", keyOf("5"), keyOf("6"), 3},
		{"x = 5;x = 5", keyOf("5"), keyOf("6"), 2},
		{"x >= 5;y = 1;x < 6;y < 0", keyOf("5"), keyOf("6"), 2},
		{"x >= 5;x != 5;x exists;x < 6", keyOf("5"), keyOf("6"), 2},
		// low above high, and low the same as high.
		{"x < 2;x >= 6", keyOf("6"), keyOf("2"), 2},
		{"x = 1;x = 2", keyOf("2"), keyOf("2"), 2},
		{"x = 1;x = 3", keyOf("3"), keyOf("2"), 2},
		{"x = null;x = true;x < 5", []byte{30}, []byte{11}, 3},
		{`x >= false;x <= true;x < "a"`, []byte{40}, []byte{20, 2}, 3},
		{`x > 5;x < "a"`, []byte{40}, []byte{31}, 2},
		{`x >= "";x <= {}`, []byte{60}, []byte{41}, 2},
		{"x > null;x >= []", []byte{50, 0}, []byte{11}, 2},
	} {
		for _, o := range orders(strings.Split(c.tests, ";")) {
			ranges(t, strings.Join(o, " and "), "x", c.low, c.high, c.n)
			ranges(t, "a = 1 and "+strings.Join(o, " and "), "x", c.low, c.high, c.n)
		}
	}
}

// P18.1: `and` within `and`, however deep; what stands beneath `or` and `not` is not needed.
func TestNeeded(t *testing.T) {
	low, high := keyOf("2"), keyOf("6")
	for _, s := range []string{
		"x >= 2 and (y = 1 and x < 6)", "(x >= 2 and y = 1) and x < 6", "(x >= 2 and x < 6) and (y = 1 and z = 1)", "y = 1 and (z = 1 and (x >= 2 and (y = 2 and x < 6)))", "((x < 6 and y = 1) and z = 1) and x >= 2",
		"x >= 2 and x < 6 and (x = 3 or x = 4)", "(x = 7 or y = 1) and x >= 2 and not x = 3 and x < 6", "not (x = 4 and x > 9) and (x >= 2 and x < 6)", "x >= 2 and not not x = 1 and x < 6", "not (x = 1 or x = 7) and (x >= 2 and ((x = 8 or x = 9) and x < 6))",
	} {
		ranges(t, s, "x", low, high, 2)
	}
	for _, s := range []string{
		"not x = 1", "not not x = 1", "x = 1 or x = 1", "x = 1 or x = 2 or x > 4", "(x = 1 and x = 2) or x = 3", "not (x = 1 and x < 2)", "not (x = 1 or x < 2)", "y = 1 and (x = 1 or x = 2)", "y = 1 and not x = 1", "(x = 1 or y = 1) and (x = 2 or y = 2)", "not x != 1", "not not (x = 1 and y = 1)",
	} {
		ranges(t, s, "x", nil, nil, 0)
	}
	ranges(t, "", "x", nil, nil, 0)
	ranges(t, "", "id", nil, nil, 0)
	for n := range 18 {
		c := sample.Within(n, cond("x >= 2"), func(c api.Cond) api.Cond { return and(c, exists("y")) })
		is(t, fmt.Sprint(n, " within one another"), toldRange(plan.Range(c, "x")), toldRange(low, []byte{31}, 1, api.OK))
		c = sample.Within(n, cond("x >= 2"), func(c api.Cond) api.Cond { return and(cond("x < 6"), c) })
		if n > 0 {
			is(t, fmt.Sprint(n, " within one another"), toldRange(plan.Range(c, "x")), toldRange(low, high, n+1, api.OK))
		}
	}
}

// refuses sees to it that both calls tell ErrForm of c, whatever else they are handed.
func refuses(t *testing.T, c api.Cond) {
	t.Helper()
	for _, p := range []string{"x", "id", "", "y.z", "\xff"} {
		is(t, "Range("+sample.ShowCond(c)+")", toldRange(plan.Range(c, p)), fault(api.ErrForm))
	}
	for _, l := range [][]string{nil, {"x"}, {"y", "x", ""}} {
		is(t, "Make("+sample.ShowCond(c)+")", toldPlan(plan.Make(c, l)), fault(api.ErrForm))
	}
}

// P18.1, P18.2: ErrForm of what is no condition, wherever that stands: no text tells it, its own text is too long, or check refuses it.
func TestByNoCond(t *testing.T) {
	for _, c := range noConds {
		for _, x := range sample.Around(c) {
			refuses(t, x)
		}
		refuses(t, and(test("x", "=", null), c))
		refuses(t, and(c, test("x", "=", null)))
	}
	for _, s := range every {
		for _, x := range sample.Around(test("x", "in", val(s))) {
			if s[0] != '[' {
				refuses(t, x)
			} else if _, e := plan.Make(x, nil); e != api.OK {
				t.Errorf("%s: %d", sample.ShowCond(x), int(e))
			}
		}
	}
	for _, x := range sample.Around(api.Cond{})[1:] {
		refuses(t, x)
	}
	// The text of n tests `x = 1` has 5 bytes for each, and 5 between each two.
	many := func(n int) api.Cond { return and(slices.Repeat([]api.Cond{test("x", "=", number(1))}, n)...) }
	is(t, "many tests", toldRange(plan.Range(many(819), "x")), toldRange(keyOf("1"), keyOf("2"), 819, api.OK))
	refuses(t, many(820))
}

// P18.1: conditions by chance, held against another hand, of each path.
func TestRangeByChance(t *testing.T) {
	r := rand.New(rand.NewSource(1))
	seen := map[string]int{}
	for range 10000 {
		c := randomCond(r, sample.Document(r))
		for _, p := range append(paths, "0", "x", "", "a.b.c") {
			low, high, tests, _ := rangeOtherwise(c, p)
			seen[fmt.Sprint(min(tests, 3))]++
			if is(t, "Range of "+sample.ShowCond(c)+" at "+p, toldRange(plan.Range(c, p)), toldRange(low, high, tests, api.OK)); t.Failed() {
				return
			}
		}
	}
	counted(t, seen, 500, "0", "1", "2", "3")
}
