package parse_test

import (
	"fmt"
	"math/rand"
	"strings"
	"testing"

	"tidemark/api"
	"tidemark/parse"
	"tidemark/sample"
)

// The values that the tests are made of, by short names.
var (
	null, boolean, number, text = sample.Null(), sample.Bool, sample.Int, sample.Text
	list, doc, field            = sample.List, sample.Doc, sample.Field
	letters, cut                = sample.Letters, sample.Cut
)

// words are all words that stand for themselves somewhere.
var words = strings.Fields("make drop index unindex insert replace get find count delete update where order by desc limit show set unset push add or and not exists in null true false")

// signs are all signs, ops those by which a test goes.
var (
	signs = strings.Fields("{ } [ ] ( ) , : . = != < <= > >=")
	ops   = strings.Fields("= != < <= > >=")
)

// The conditions that the tests are made of.
func exists(path string) api.Cond                  { return api.Cond{Op: "exists", Path: path} }
func test(path, op string, v api.Val) api.Cond     { return api.Cond{Op: op, Path: path, V: v} }
func is(path string, n int64) api.Cond             { return test(path, "=", number(n)) }
func or(l ...api.Cond) api.Cond                    { return api.Cond{Op: "or", L: l} }
func and(l ...api.Cond) api.Cond                   { return api.Cond{Op: "and", L: l} }
func not(c api.Cond) api.Cond                      { return api.Cond{Op: "not", L: []api.Cond{c}} }
func nots(n int, c api.Cond) api.Cond              { return wrapped(n, c, not) }
func change(do, path string, v api.Val) api.Change { return api.Change{Do: do, Path: path, V: v} }

// wrapped is c within so many.
func wrapped(n int, c api.Cond, in func(api.Cond) api.Cond) api.Cond {
	for range n {
		c = in(c)
	}
	return c
}

// found is the statement `find a` with that condition.
func found(c api.Cond) api.Stmt { return api.Stmt{Verb: "find", Coll: "a", Where: c} }

// show tells all of a statement; nil and an empty list alike. With room the spare room of its lists is told, too.
func show(x api.Stmt, room bool) string {
	s := fmt.Sprintf("%q %q %q %s where %s order", x.Verb, x.Coll, x.Path, showValue(x.V, room), showCond(x.Where, room))
	for _, o := range seen(x.Order, room) {
		s += fmt.Sprintf(" %q %v", o.Path, o.Desc)
	}
	s += fmt.Sprintf(" limit %d show %q change", x.Limit, seen(x.Show, room))
	for _, c := range seen(x.Changes, room) {
		s += fmt.Sprintf(" %q %q %s", c.Do, c.Path, showValue(c.V, room))
	}
	return s
}

func showCond(c api.Cond, room bool) string {
	s := fmt.Sprintf("(%q %q %s:", c.Op, c.Path, showValue(c.V, room))
	for _, x := range seen(c.L, room) {
		s += " " + showCond(x, room)
	}
	return s + ")"
}

func showValue(v api.Val, room bool) string {
	if room {
		return sample.ShowRoom(v)
	}
	return sample.Show(v)
}

// seen are the items of l, with those in its spare room or without.
func seen[T any](l []T, room bool) []T {
	if room {
		return l[:cap(l)]
	}
	return l
}

// parses sees to it that Parse tells that statement of s.
func parses(t *testing.T, s string, want api.Stmt) {
	t.Helper()
	if x, at, e := parse.Parse(s); e != api.OK || at != 0 || show(x, false) != show(want, false) {
		t.Errorf("Parse(%q): %s, %d, %d, want %s", cut(s), cut(show(x, false)), at, int(e), cut(show(want, false)))
	}
}

// parsesNone sees to it that Parse tells that fault of s.
func parsesNone(t *testing.T, s string, want api.Errno, place int) {
	t.Helper()
	if x, at, e := parse.Parse(s); e != want || at != place || show(x, false) != show(api.Stmt{}, false) {
		t.Errorf("Parse(%q): %s, %d, %d, want error %d at %d", cut(s), cut(show(x, false)), at, int(e), int(want), place)
	}
}

// conds sees to it that s is a text of that condition: by itself, and where a statement has one.
func conds(t *testing.T, s string, want api.Cond) {
	t.Helper()
	if c, at, e := parse.Cond(s); e != api.OK || at != 0 || showCond(c, false) != showCond(want, false) {
		t.Errorf("Cond(%q): %s, %d, %d, want %s", cut(s), cut(showCond(c, false)), at, int(e), cut(showCond(want, false)))
	}
	parses(t, "find a where "+s, found(want))
	parses(t, "find a where "+s+" limit 3", api.Stmt{Verb: "find", Coll: "a", Where: want, Limit: 3})
	parses(t, "count a where "+s, api.Stmt{Verb: "count", Coll: "a", Where: want})
	parses(t, "delete a where\n"+s, api.Stmt{Verb: "delete", Coll: "a", Where: want})
	parses(t, "update a where "+s+" unset b", api.Stmt{Verb: "update", Coll: "a", Where: want, Changes: []api.Change{change("unset", "b", api.Val{})}})
}

// condsNone sees to it that s has that fault where a condition is asked for.
func condsNone(t *testing.T, s string, want api.Errno, place int) {
	t.Helper()
	if c, at, e := parse.Cond(s); e != want || at != place || showCond(c, false) != showCond(api.Cond{}, false) {
		t.Errorf("Cond(%q): %s, %d, %d, want error %d at %d", cut(s), cut(showCond(c, false)), at, int(e), int(want), place)
	}
	for _, ahead := range []string{"find a where ", "count a where ", "delete a where\t"} {
		parsesNone(t, ahead+s, want, len(ahead)+place)
	}
}

// prints sees to it that Print tells that text of x, and Parse x of the text.
func prints(t *testing.T, x api.Stmt, want string) {
	t.Helper()
	if s, e := parse.Print(x); e != api.OK || s != want {
		t.Errorf("Print of %s: %q, %d, want %q", cut(show(x, false)), cut(s), int(e), cut(want))
	}
	parses(t, want, x)
}

// printsNone sees to it that no text tells x.
func printsNone(t *testing.T, x api.Stmt) {
	t.Helper()
	if s, e := parse.Print(x); e != api.ErrForm || s != "" {
		t.Errorf("Print of %s: %q, %d, want error %d", cut(show(x, false)), cut(s), int(e), int(api.ErrForm))
	}
}

// one is one of l.
func one[T any](r *rand.Rand, l ...T) T { return l[r.Intn(len(l))] }

// many are some by chance, at least so many.
func many[T any](r *rand.Rand, least int, make func() T) []T {
	var l []T
	for range least + r.Intn(3) {
		l = append(l, make())
	}
	return l
}

// randomPath is a path that a test may go by, too.
func randomPath(r *rand.Rand) string {
	p := one(r, "a", "b1", "_", "0", "10", "99", "desc", "in", "exists", "and", "limit", "set", letters(24))
	for range r.Intn(4) * r.Intn(3) {
		p += "." + one(r, "x", "0", "31", "not", "where", "Y_2")
	}
	return p
}

// randomValue is a good value.
func randomValue(r *rand.Rand) api.Val {
	m := sample.Maker{Chance: r, Texts: []string{"", "a", "find", "\n\"\\", "\u00e4\u20ac", ", \"x\" :"}, Names: []string{"a", "aa", "b", "null", "\u00e4"}}
	return m.Value(r.Intn(4))
}

// randomCond is a condition of at most that depth.
func randomCond(r *rand.Rand, depth int) api.Cond {
	part := func() api.Cond { return randomCond(r, depth-1) }
	if depth > 0 {
		switch r.Intn(5) {
		case 0:
			return or(many(r, 2, part)...)
		case 1:
			return and(many(r, 2, part)...)
		case 2:
			return not(part())
		}
	}
	if r.Intn(4) == 0 {
		return exists(randomPath(r))
	}
	return test(randomPath(r), one(r, append([]string{"in"}, ops...)...), randomValue(r))
}

// randomChange is a change.
func randomChange(r *rand.Rand) api.Change {
	c := change(one(r, "set", "unset", "push", "add"), randomPath(r), randomValue(r))
	switch c.Do {
	case "unset":
		c.V = api.Val{}
	case "add":
		c.V = number(int64(r.Uint64()) >> r.Intn(64))
	}
	return c
}

// random is a statement.
func random(r *rand.Rand) api.Stmt {
	x := api.Stmt{Verb: words[r.Intn(11)], Coll: one(r, "a", "find", "where", "_9", letters(24))}
	switch x.Verb {
	case "index", "unindex":
		x.Path = randomPath(r)
	case "insert", "replace", "get":
		x.V = randomValue(r)
	case "find", "count", "delete", "update":
		if r.Intn(3) > 0 {
			x.Where = randomCond(r, r.Intn(4))
		}
	}
	if x.Verb == "update" {
		x.Changes = many(r, 1, func() api.Change { return randomChange(r) })
	}
	if x.Verb == "find" {
		x.Order = many(r, 0, func() api.Order { return api.Order{Path: randomPath(r), Desc: r.Intn(2) == 0} })
		x.Limit = one(r, 0, 0, 1, 64, -5, 1<<63-1, -1<<63)
		x.Show = many(r, 0, func() string { return randomPath(r) })
	}
	return x
}
