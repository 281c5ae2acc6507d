package check_test

import (
	"math/rand"
	"regexp"
	"slices"
	"strings"
	"testing"

	"tidemark/api"
	"tidemark/check"
	"tidemark/sample"
)

// What the tests are made of, by short names.
var (
	null, boolean, number, text = sample.Null(), sample.Bool, sample.Int, sample.Text
	list, doc, field            = sample.List, sample.Doc, sample.Field
	exists, test, or, and, not  = sample.Exists, sample.Test, sample.Or, sample.And, sample.Not
	letters, cut, short, show   = sample.Letters, sample.Cut, sample.Short, sample.ShowStmt
)

// document is a Doc with that id.
func document(id api.Val) api.Val { return doc(field("id", id)) }

// orders are Orders of these paths, changes Changes.
func orders(l ...string) []api.Order {
	var all []api.Order
	for _, p := range l {
		all = append(all, api.Order{Path: p})
	}
	return all
}

func changes(l ...string) []api.Change {
	var all []api.Change
	for _, p := range l {
		all = append(all, sample.Change("unset", p, api.Val{}))
	}
	return all
}

// paths are n paths of which none touches another one.
func paths(n int) []string {
	var l []string
	for i := range n {
		l = append(l, "p"+letters(i+1))
	}
	return l
}

// lets sees to it that each of l is let pass.
func lets(t *testing.T, l ...api.Stmt) {
	t.Helper()
	refuses(t, api.OK, l...)
}

// refuses sees to it that Stmt tells that error of each of l.
func refuses(t *testing.T, want api.Errno, l ...api.Stmt) {
	t.Helper()
	for _, x := range l {
		if e := check.Stmt(x); e != want {
			t.Errorf("Stmt of %s: %d, want %d", cut(show(x)), int(e), int(want))
		}
	}
}

// verbs are all that there are, and others.
func verbs() []string {
	return append(sample.Verbs(), "", "foo", "Insert", "GET", "index ", "\xff")
}

// others are all verbs but these.
func others(these ...string) []string {
	return slices.DeleteFunc(verbs(), func(verb string) bool { return slices.Contains(these, verb) })
}

// of are the statements that make makes, one of each verb.
func of(l []string, make func(verb string) api.Stmt) []api.Stmt {
	var all []api.Stmt
	for _, verb := range l {
		all = append(all, make(verb))
	}
	return all
}

// anyVerb is x with each verb, and with what this verb asks for.
func anyVerb(x api.Stmt) []api.Stmt {
	return of(verbs(), func(verb string) api.Stmt {
		x := x
		x.Verb, x.Coll, x.V, x.Path = verb, "a", document(number(1)), "x"
		if verb == "get" {
			x.V = number(1)
		}
		return x
	})
}

// What a path is, and what names with `.` between are, by another hand.
const step = `([A-Za-z_][A-Za-z0-9_]{0,23}|[0-9]|[1-9][0-9])`

var (
	isPath  = regexp.MustCompile(`\A` + step + `(\.` + step + `){0,7}\z`).MatchString
	isNamed = regexp.MustCompile(`\A[A-Za-z_]\w*(\.[A-Za-z_]\w*)*\z`).MatchString
)

// meets is Touches by another hand: it goes by the texts, in which each step has its end.
func meets(a, b string) bool {
	return isPath(a) && isPath(b) && (strings.HasPrefix(a+".", b+".") || strings.HasPrefix(b+".", a+"."))
}

// noId tells, by another hand, whether v is no id.
func noId(v api.Val) bool {
	switch v.Kind {
	case api.Int:
		return false
	case api.Text:
		return len(v.S) > 64
	}
	return true
}

// idBroken tells, by another hand, whether v has no field id that is an id; the first of that name counts.
func idBroken(v api.Val) bool {
	i := slices.IndexFunc(v.F, func(f api.Field) bool { return f.Name == "id" })
	return i < 0 || noId(v.F[i].V)
}

// tests are all conditions that c is made of, itself among them.
func tests(c api.Cond) []api.Cond {
	l := []api.Cond{c}
	for i := 0; i < len(l); i++ {
		l = append(l, l[i].L...)
	}
	return l
}

// pairs tells whether two of l meet.
func pairs(l []string, meet func(a, b string) bool) bool {
	n := 0
	for i, a := range l {
		for k, b := range l {
			if i != k && meet(a, b) {
				n++
			}
		}
	}
	return n > 0
}

// otherwise is Stmt by another hand: all errors are gathered, each with its rank, and the first one is told.
func otherwise(x api.Stmt) api.Errno {
	var found []api.Errno
	note := func(e api.Errno, broken bool) {
		if broken {
			found = append(found, e)
		}
	}
	switch x.Verb {
	case "insert", "replace":
		note(api.ErrKind, x.V.Kind != api.Doc)
		note(api.ErrKey, idBroken(x.V))
	case "get":
		note(api.ErrKey, noId(x.V))
	case "index", "unindex":
		note(api.ErrKey, meets(x.Path, "id"))
	}
	note(api.ErrArg, uint64(x.Limit) > 64)
	for _, c := range tests(x.Where) {
		note(api.ErrKind, c.Op == "in" && c.V.Kind != api.List)
	}
	var ordered, changed []string
	for _, o := range x.Order {
		ordered = append(ordered, o.Path)
	}
	for _, c := range x.Changes {
		changed = append(changed, c.Path)
	}
	note(api.ErrLimit, len(ordered) > 4)
	note(api.ErrDup, pairs(ordered, func(a, b string) bool { return a == b }))
	note(api.ErrLimit, len(x.Show) > 8)
	for _, p := range x.Show {
		note(api.ErrSyntax, !isPath(p) || !isNamed(p))
	}
	note(api.ErrDup, pairs(x.Show, meets))
	note(api.ErrLimit, len(changed) > 8)
	note(api.ErrKey, slices.ContainsFunc(changed, func(p string) bool { return meets("id", p) }))
	note(api.ErrDup, pairs(changed, meets))
	return append(found, api.OK)[0]
}

// one is one of l.
func one[T any](r *rand.Rand, l ...T) T { return l[r.Intn(len(l))] }

// maker makes values and statements by chance, of which many are near what is refused.
func maker(r *rand.Rand) sample.Maker {
	return sample.Maker{
		Chance: r,
		Texts:  []string{"", "a", letters(64), letters(65), "\u00e4"},
		Names:  []string{"a", "id", "ie"},
		Firsts: []string{"a", "b", "c", "d", "e", "f", "g", "h", "i", "ide", "k", "l", "m", "n", "id", "0"},
		Steps:  []string{"x", "id", "y", "z", "7"},
	}
}

// random is a statement that parse.Print takes; about half of those that put a document have one with an id.
func random(r *rand.Rand) api.Stmt {
	m := maker(r)
	x := m.Stmt("a")
	switch x.Verb {
	case "insert", "replace":
		if r.Intn(2) == 0 {
			x.V = doc(field("a", m.Value(2)), field("id", m.Value(0)))
		}
	case "find":
		if r.Intn(2) == 0 {
			x.Limit = r.Intn(70)
		}
		for range r.Intn(10) * r.Intn(2) {
			x.Show = append(x.Show, m.Path())
		}
		for range r.Intn(5) * r.Intn(2) {
			x.Order = append(x.Order, m.Order())
		}
	case "update":
		for range r.Intn(10) * r.Intn(2) {
			x.Changes = append(x.Changes, m.Change())
		}
	}
	return x
}

// badPaths are texts that are no paths.
var badPaths = []string{"", ".", "a.", ".a", "a..b", "id.", ".id", "id..x", "id .x", " id", "id ", "01", "id.01", "-1", "100", "a b", "a,b", "\u00e4", "\xff", "id\x00", letters(25), "id." + letters(25), "id.b.c.d.e.f.g.h.i", letters(300)}

// bad are values that are not good.
var bad = sample.Bad()

// spoil changes a part of x into one that no text tells, maybe.
func spoil(r *rand.Rand, x *api.Stmt) {
	m := maker(r)
	path := one(r, append(badPaths, "id", "a", "a.0", "b", m.Path())...)
	v := one(r, m.Value(2), one(r, bad...).V, api.Val{})
	switch r.Intn(8) {
	case 0:
		x.Verb = one(r, verbs()...)
	case 1:
		x.Path = path
	case 2:
		x.V = one(r, v, doc(field("id", v)), doc(field("id", number(1)), field("id", v)), doc(field("zz", v), field("id", v), field("a", v)))
	case 3:
		c := test(path, one(r, "in", "=", "exists", "foo", ""), v)
		c.L = one(r, nil, []api.Cond{x.Where}, []api.Cond{m.Cond(2), x.Where, {}})
		x.Where = c
	case 4:
		x.Order = append(x.Order, api.Order{Path: path, Desc: r.Intn(2) == 0})
	case 5:
		x.Limit = one(r, sample.Numbers(64)...)
	case 6:
		x.Show = append(x.Show, path)
	case 7:
		x.Changes = append(x.Changes, sample.Change(one(r, "set", "unset", "foo", ""), path, v))
	}
}
