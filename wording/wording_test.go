package wording_test

import (
	"slices"
	"strings"
	"testing"

	"tidemark/api"
	"tidemark/sample"
	"tidemark/wording"
)

// x is a test; y one by a value of many kinds, and its text.
var (
	x     = sample.Exists("x")
	y     = sample.Test("y.0", "<=", sample.Doc(sample.Field("a", sample.List(sample.Null(), sample.Bool(0), sample.Bool(1), sample.Text("\n")))))
	yText = `y . 0 <= { "a" : [ null , false , true , "\n" ] }`
)

// P15.2: a statement's text has all its parts, in one order, whether its verb may have them or not.
func TestStmt(t *testing.T) {
	all := api.Stmt{Verb: "make", Coll: "b", Path: "p.1", V: sample.Int(-5), Where: x, Order: []api.Order{{Path: "q", Desc: true}, {Path: "r"}}, Limit: 7, Show: []string{"s", "t.u"}, Changes: []api.Change{sample.Change("set", "v", sample.List()), sample.Change("unset", "w", api.Val{}), sample.Change("push", "y", sample.Null()), sample.Change("add", "z", sample.Int(1))}}
	for want, s := range map[string]api.Stmt{
		"make b": {Verb: "make", Coll: "b"},
		"foo b":  {Verb: "foo", Coll: "b"},
		"make b p . 1 -5 where x exists order by q desc , r limit 7 show s , t . u set v = [ ] , unset w , push y null , add z 1": all,
	} {
		if got := wording.Stmt(s); got != want {
			t.Errorf("%s: %q, want %q", sample.ShowStmt(s), got, want)
		}
	}
}

// P15.2: a condition's text has parentheses where its parts would be read as something else.
func TestCond(t *testing.T) {
	or, and, not := sample.Or, sample.And, sample.Not
	for want, c := range map[string]api.Cond{
		"x exists":                               x,
		yText:                                    y,
		"x in [ 1 ]":                             sample.Test("x", "in", sample.List(sample.Int(1))),
		"x exists or " + yText:                   or(x, y),
		"not x exists":                           not(x),
		"x exists and ( x exists or x exists )":  and(x, or(x, x)),
		"x exists or x exists and x exists":      or(x, and(x, x)),
		"x exists or ( x exists or x exists )":   or(x, or(x, x)),
		"not ( x exists and x exists )":          not(and(x, x)),
		"( x exists and x exists ) and x exists": and(and(x, x), x),
		"not not ( x exists or not x exists )":   not(not(or(x, not(x)))),
		// What does not belong together is written all the same.
		"not":                   {Op: "not"},
		"not x exists x exists": {Op: "not", L: []api.Cond{x, x}},
		"exists 1":              {Op: "exists", Path: "a..b", V: sample.Int(1)},
		strings.Repeat("not ", 8190) + "x exists": sample.Within(8190, x, not),
	} {
		if got := wording.Cond(c); got != want {
			t.Errorf("%s: %q, want %q", sample.Cut(sample.ShowCond(c)), sample.Cut(got), sample.Cut(want))
		}
	}
}

// P15.2, R1: what no tokens can be made of has no text; nor what would have more of them than a text has bytes, be it endless.
func TestNone(t *testing.T) {
	ring := make([]api.Cond, 2)
	ring[0], ring[1] = sample.And(ring...), sample.Or(ring...)
	ring[0].L, ring[1].L = ring, ring
	for _, c := range []api.Cond{
		{Op: "=="}, {Op: "foo", Path: "x"}, {Op: "", Path: "x", V: sample.Null()}, sample.Test("x", "=", sample.Text("\xff")), sample.Or(x, api.Cond{}), ring[0], ring[1],
		sample.Within(8191, x, sample.Not), sample.Within(1<<16, x, sample.Not), sample.Or(slices.Repeat([]api.Cond{x}, 1<<20)...), sample.Test("x", "=", sample.DeepLists(1<<16)),
	} {
		if s := wording.Cond(c); s != "" {
			t.Errorf("%s: %q", sample.Cut(sample.ShowCond(sample.Test(c.Path, c.Op, c.V))), sample.Cut(s))
		}
		if s := wording.Stmt(api.Stmt{Verb: "find", Coll: "a", Where: sample.Not(c)}); s != "" {
			t.Errorf("find where not %s: %q", sample.Cut(sample.ShowCond(sample.Test(c.Path, c.Op, c.V))), sample.Cut(s))
		}
	}
	if a, b := wording.Cond(api.Cond{}), wording.Stmt(api.Stmt{V: sample.Text("\xff")}); a != "" || b != "" {
		t.Errorf("%q, %q", a, b)
	}
}
