package eval_test

import (
	"fmt"
	"math/rand"
	"slices"
	"strings"
	"testing"

	"tidemark/api"
	"tidemark/eval"
	"tidemark/parse"
	"tidemark/sample"
)

// holds sees to it that c holds of v, or does not.
func holds(t *testing.T, c api.Cond, v api.Val, want bool) {
	t.Helper()
	if got, e := eval.Holds(c, v); got != want || e != api.OK {
		t.Errorf("Holds(%s) of %s: %v, %d, want %v", showCond(c), short(v), got, int(e), want)
	}
}

// refuses sees to it that Holds tells that error.
func refuses(t *testing.T, c api.Cond, v api.Val, want api.Errno) {
	t.Helper()
	if got, e := eval.Holds(c, v); got || e != want {
		t.Errorf("Holds(%s) of %s: %v, %d, want error %d", showCond(c), short(v), got, int(e), int(want))
	}
}

// The chapter's examples.
func TestHoldsExamples(t *testing.T) {
	for s, want := range map[string]bool{"x > 4": true, `x < "a"`: false, "y != 1": true, `t in [["a"]]`: true, "not y exists": true} {
		holds(t, cond(s), val(example), want)
	}
}

// rising are values of each Kind, in their order.
var rising = vals(`null,false,true,-9223372036854775808,-1,0,1,9223372036854775807,"","a","ab","b","\u00e4",[],[null],[1],[1,0],[2],["a"],[[]],{},{"a":1},{"a":1,"b":0},{"a":2},{"a":{}},{"b":0}`)

// verdicts are for each Op whether it holds of a value below V, of V itself, and of one above V, all of one Kind; and of one of another Kind.
var verdicts = map[string][4]bool{
	"=": {false, true, false, false}, "!=": {true, false, true, true}, "<": {true, false, false, false}, "<=": {true, true, false, false}, ">": {false, false, true, false}, ">=": {false, true, true, false},
}

// P17.1: each test by a sign, of each value and each V, wherever the Path leads.
func TestSigns(t *testing.T) {
	for i, x := range rising {
		for k, v := range rising {
			at := 1
			switch {
			case x.Kind != v.Kind:
				at = 3
			case i < k:
				at = 0
			case i > k:
				at = 2
			}
			for op, l := range verdicts {
				holds(t, test("x", op, v), doc(field("id", number(1)), field("x", x)), l[at])
				holds(t, test("t.1.x", op, v), doc(field("t", list(null, doc(field("x", x))))), l[at])
				holds(t, test("1", op, v), list(null, x), l[at])
				holds(t, not(test("x", op, v)), doc(field("x", x)), !l[at])
			}
		}
	}
}

// nowhere are paths that lead nowhere from what val tells of another text.
var nowhere = map[string][]string{
	`{"a":{"b":[1]},"id":1,"x":null}`: {"y", "X", "xx", "a.c", "a.b.1", "a.b.b", "a.0", "x.x", "x.0", "id.id", "0", "a.b.0.0", "a.b.0.a", "a.b.10"},
	`[[1],{"a":1}]`:                   {"a", "2", "10", "0.1", "0.a", "1.0", "1.b", "0.0.0"},
	`null`:                            {"x", "0"},
	`5`:                               {"x", "0"},
	`"x"`:                             {"x", "0"},
	`{"0":1,"\u00e4":2}`:              {"0", "x"},
	`{}`:                              {"x", "id", "0"},
	`[]`:                              {"x", "0"},
}

// P17.1: where a Path leads nowhere, `!=` holds, and no other test does.
func TestNowhere(t *testing.T) {
	for s, paths := range nowhere {
		for _, p := range paths {
			for _, v := range rising {
				for op := range verdicts {
					holds(t, test(p, op, v), val(s), op == "!=")
					holds(t, not(test(p, op, v)), val(s), op != "!=")
				}
				holds(t, test(p, "in", list(v)), val(s), false)
			}
			holds(t, exists(p), val(s), false)
			holds(t, test(p, "in", list()), val(s), false)
			holds(t, not(exists(p)), val(s), true)
		}
	}
}

// P17.1: `exists` holds wherever a Path leads, whatever is there; `in` where V has the same.
func TestExistsAndIn(t *testing.T) {
	for i, x := range rising {
		v := doc(field("t", list(x)), field("x", x))
		for _, p := range []string{"x", "t.0", "t"} {
			holds(t, exists(p), v, true)
		}
		others := slices.Concat(rising[:i], rising[i+1:])
		for _, l := range [][]api.Val{{x}, {x, x}, {null, x}, {x, list()}, rising} {
			holds(t, test("x", "in", list(l...)), v, true)
			holds(t, test("t.0", "in", list(l...)), v, true)
		}
		for _, l := range [][]api.Val{nil, others, {list(x)}, {doc(field("x", x))}, {list(list(x))}} {
			holds(t, test("x", "in", list(l...)), v, false)
			holds(t, test("t.0", "in", list(l...)), v, false)
		}
		holds(t, test("t", "in", list(x, list(x))), v, true)
		holds(t, test("t", "in", list(x, list(list(x)), list(x, x))), v, false)
	}
}

// P17.1: `and`, `or` and `not` of parts that hold and parts that do not, at each place.
func TestJoined(t *testing.T) {
	v := val(example)
	yes, no := exists("x"), exists("y")
	for n := 2; n < 6; n++ {
		for set := range 1 << n {
			l := slices.Repeat([]api.Cond{no}, n)
			for i := range n {
				if set>>i&1 == 1 {
					l[i] = yes
				}
			}
			any, all := set > 0, set == 1<<n-1
			holds(t, or(l...), v, any)
			holds(t, and(l...), v, all)
			holds(t, not(or(l...)), v, !any)
			holds(t, not(not(and(l...))), v, all)
			holds(t, or(no, and(l...)), v, all)
			holds(t, and(yes, or(l...)), v, any)
			holds(t, or(or(l...), not(yes)), v, any)
			holds(t, and(not(no), and(l...)), v, all)
			holds(t, and(or(not(and(l...)), no), or(no, no, or(l...))), v, any && !all)
		}
	}
	for n := range 18 {
		holds(t, sample.Within(n, yes, not), v, n%2 == 0)
		holds(t, sample.Within(n, no, not), v, n%2 == 1)
	}
}

// P17.1: no condition at all holds of whatever is good, as does what is kept from it.
func TestNone(t *testing.T) {
	for _, v := range slices.Concat(rising, sample.Nested(), vals(example)) {
		holds(t, api.Cond{}, v, true)
		holds(t, api.Cond{V: api.Val{L: []api.Val{}, F: []api.Field{}}, L: []api.Cond{}}, v, true)
	}
}

// P17.1: Good's error of doc is told first, whatever the condition is.
func TestHoldsOfBad(t *testing.T) {
	for _, f := range bad {
		for _, c := range append([]api.Cond{{}, exists("x"), not(exists("x")), test("x", "in", number(1))}, sample.BadConds()...) {
			refuses(t, c, f.V, f.E)
		}
		refuses(t, exists("x"), doc(field("x", f.V)), f.E)
		refuses(t, api.Cond{}, list(f.V), f.E)
	}
	refuses(t, api.Cond{}, sample.DeepLists(9), api.ErrDeep)
	holds(t, exists("0.0.0.0.0.0.0"), sample.DeepLists(8), true)
}

// P17.1: ErrForm of what is not what parse.Cond tells of its own text, wherever it stands.
func TestHoldsByNoCond(t *testing.T) {
	for _, c := range sample.BadConds() {
		for _, v := range vals(example + `,{},[],null,5,"a"`) {
			for _, y := range within(c) {
				refuses(t, y, v, api.ErrForm)
			}
		}
	}
	// By itself this is one, but not within another one.
	for _, y := range within(api.Cond{})[1:] {
		refuses(t, y, val(example), api.ErrForm)
	}
}

// P17.1: ErrForm of what check.Stmt would refuse: an `in` whose V is no List, wherever it stands.
func TestHoldsByNoSense(t *testing.T) {
	for _, x := range rising {
		for _, c := range within(test("x", "in", x)) {
			for _, v := range vals(example + ",{},null") {
				if x.Kind != api.List {
					refuses(t, c, v, api.ErrForm)
				} else if _, e := eval.Holds(c, v); e != api.OK {
					t.Errorf("%s: %d", showCond(c), int(e))
				}
			}
		}
	}
}

// P17.1: a condition's own text may have MaxText bytes, though no statement has room for it beside its own words.
func TestHoldsAtLimits(t *testing.T) {
	v := val(example)
	// The text of n tests `x exists` has 8 bytes for each, and 4 between each two: of 683 it has 8192.
	for _, n := range []int{680, 681, 682, 683} {
		c := or(slices.Repeat([]api.Cond{exists("x")}, n)...)
		holds(t, c, v, true)
		if _, e := parse.Print(api.Stmt{Verb: "find", Coll: "a", Where: c}); (e == api.OK) != (n < 682) {
			t.Errorf("%d tests: %d", n, int(e))
		}
	}
	for _, n := range []int{684, 685, 1000, 1 << 20} {
		refuses(t, or(slices.Repeat([]api.Cond{exists("x")}, n)...), v, api.ErrForm)
	}
	// Of `x = "..."` the text has 6 bytes beside what stands within the quotes, where this character has 6.
	c := test("x", "=", text(strings.Repeat("\x01", 1364)+"aa"))
	holds(t, c, v, false)
	holds(t, c, doc(field("x", c.V)), true)
	refuses(t, test("x", "=", text(strings.Repeat("\x01", 1364)+"aaa")), v, api.ErrForm)
	refuses(t, test("xx", "=", c.V), v, api.ErrForm)
	// Spelt closely it could be read; but its own text has blanks.
	close, _, e := parse.Cond(strings.TrimSuffix(strings.Repeat("x=5 or ", 1100), " or "))
	if e != api.OK {
		t.Errorf("%d", int(e))
	}
	refuses(t, close, v, api.ErrForm)
	deep := func(n int) api.Cond {
		return sample.Within(n, exists("x"), func(c api.Cond) api.Cond { return or(c, exists("y")) })
	}
	holds(t, sample.Within(17, exists("x"), not), v, false)
	holds(t, deep(18), v, true)
	refuses(t, sample.Within(18, exists("x"), not), v, api.ErrForm)
	refuses(t, deep(19), v, api.ErrForm)
	refuses(t, sample.Within(8, deep(10), not), v, api.ErrForm)
	holds(t, sample.Within(7, deep(10), not), v, false)
}

// P17.1: conditions and values by chance, held against another hand.
func TestHoldsByChance(t *testing.T) {
	r := rand.New(rand.NewSource(1))
	seen := map[string]int{}
	for range 40000 {
		v := random(r)
		if r.Intn(5) == 0 {
			v = maker(r).Value(3)
		}
		c := randomCond(r, v)
		want := holdsOtherwise(c, v)
		seen[fmt.Sprint(c.Op, " ", want)]++
		if holds(t, c, v, want); t.Failed() {
			return
		}
	}
	for _, op := range append(sample.Signs(), "and", "or", "not", "exists", "in") {
		counted(t, seen, 50, op+" true", op+" false")
	}
}
