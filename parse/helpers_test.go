package parse_test

import (
	"math/rand"
	"strings"
	"testing"

	"tidemark/api"
	"tidemark/parse"
	"tidemark/sample"
)

// The values that the tests are made of, by short names.
var (
	null, boolean, number, text = sample.Null(), sample.Bool, sample.Int, sample.Text
	list, doc, field            = sample.List, sample.Doc, sample.Field
	letters, cut                = sample.Letters, sample.Cut
)

// words are all words that stand for themselves somewhere.
var words = strings.Fields("make drop index unindex insert replace get find count delete update where order by desc limit show set unset push add or and not exists in null true false")

// signs are all signs, ops those by which a test goes.
var (
	signs = strings.Fields("{ } [ ] ( ) , : . = != < <= > >=")
	ops   = sample.Signs()
)

// The conditions and changes that the tests are made of, by short names.
var (
	exists, test, or, and, not = sample.Exists, sample.Test, sample.Or, sample.And, sample.Not
	wrapped, change            = sample.Within, sample.Change
	show, showCond             = sample.ShowStmt, sample.ShowCond
)

func is(path string, n int64) api.Cond { return test(path, "=", number(n)) }

func nots(n int, c api.Cond) api.Cond { return wrapped(n, c, not) }

// found is the statement `find a` with that condition.
func found(c api.Cond) api.Stmt { return api.Stmt{Verb: "find", Coll: "a", Where: c} }

// parses sees to it that Parse tells that statement of s.
func parses(t *testing.T, s string, want api.Stmt) {
	t.Helper()
	if x, at, e := parse.Parse(s); e != api.OK || at != 0 || show(x) != show(want) {
		t.Errorf("Parse(%q): %s, %d, %d, want %s", cut(s), cut(show(x)), at, int(e), cut(show(want)))
	}
}

// parsesNone sees to it that Parse tells that fault of s.
func parsesNone(t *testing.T, s string, want api.Errno, place int) {
	t.Helper()
	if x, at, e := parse.Parse(s); e != want || at != place || show(x) != show(api.Stmt{}) {
		t.Errorf("Parse(%q): %s, %d, %d, want error %d at %d", cut(s), cut(show(x)), at, int(e), int(want), place)
	}
}

// conds sees to it that s is a text of that condition: by itself, and where a statement has one.
func conds(t *testing.T, s string, want api.Cond) {
	t.Helper()
	if c, at, e := parse.Cond(s); e != api.OK || at != 0 || showCond(c) != showCond(want) {
		t.Errorf("Cond(%q): %s, %d, %d, want %s", cut(s), cut(showCond(c)), at, int(e), cut(showCond(want)))
	}
	parses(t, "find a where "+s, found(want))
	parses(t, "find a where "+s+" limit 3", api.Stmt{Verb: "find", Coll: "a", Where: want, Limit: 3})
	parses(t, "count a where "+s, api.Stmt{Verb: "count", Coll: "a", Where: want})
	parses(t, "delete a where\n"+s, api.Stmt{Verb: "delete", Coll: "a", Where: want})
	parses(t, "update a where "+s+" unset b", api.Stmt{Verb: "update", Coll: "a", Where: want, Changes: []api.Change{change("unset", "b", api.Val{})}})
}

// condsNone sees to it that s has that fault where a condition is asked for.
func condsNone(t *testing.T, s string, want api.Errno, place int) {
	t.Helper()
	if c, at, e := parse.Cond(s); e != want || at != place || showCond(c) != showCond(api.Cond{}) {
		t.Errorf("Cond(%q): %s, %d, %d, want error %d at %d", cut(s), cut(showCond(c)), at, int(e), int(want), place)
	}
	for _, ahead := range []string{"find a where ", "count a where ", "delete a where\t"} {
		parsesNone(t, ahead+s, want, len(ahead)+place)
	}
}

// prints sees to it that Print tells that text of x, and Parse x of the text.
func prints(t *testing.T, x api.Stmt, want string) {
	t.Helper()
	if s, e := parse.Print(x); e != api.OK || s != want {
		t.Errorf("Print of %s: %q, %d, want %q", cut(show(x)), cut(s), int(e), cut(want))
	}
	parses(t, want, x)
}

// printsNone sees to it that no text tells x.
func printsNone(t *testing.T, x api.Stmt) {
	t.Helper()
	if s, e := parse.Print(x); e != api.ErrForm || s != "" {
		t.Errorf("Print of %s: %q, %d, want error %d", cut(show(x)), cut(s), int(e), int(api.ErrForm))
	}
}

// one is one of l.
func one[T any](r *rand.Rand, l ...T) T { return l[r.Intn(len(l))] }

// maker makes values and statements by chance; no path begins with `not`, so that each may stand in a condition.
func maker(r *rand.Rand) sample.Maker {
	return sample.Maker{
		Chance: r,
		Texts:  []string{"", "a", "find", "\n\"\\", "\u00e4\u20ac", ", \"x\" :"},
		Names:  []string{"a", "aa", "b", "null", "\u00e4"},
		Firsts: []string{"a", "b1", "_", "0", "10", "99", "desc", "in", "exists", "and", "limit", "set", letters(24)},
		Steps:  []string{"x", "0", "31", "not", "where", "Y_2"},
	}
}

// randomValue is a good value.
func randomValue(r *rand.Rand) api.Val { return maker(r).Value(r.Intn(4)) }

// randomCond is a condition of at most that depth.
func randomCond(r *rand.Rand, depth int) api.Cond { return maker(r).Cond(depth) }

// random is a statement.
func random(r *rand.Rand) api.Stmt {
	return maker(r).Stmt(one(r, "a", "find", "where", "_9", letters(24)))
}
