package check_test

import (
	"math/rand"
	"strings"
	"testing"
	"unsafe"

	"tidemark/api"
	"tidemark/check"
	"tidemark/sample"
)

// rich are texts in which all kinds of lists and texts stand.
var rich = []string{
	`find some where name.first = {"aa":["xyz",{"bb":[1,2]}]} and ( long.name exists or not other in [[],["ab"]] ) order by name.one , name.two desc limit 3 show first.part , second`,
	`insert some {"aa":["xyz"],"id":"text"}`, `get some "text"`, "index some name.first",
	`update some where name in [["a"],[]] set first = ["abc"] , unset second.part , push third {"aa":[[]]} , add fourth 5`,
}

// R4: what is handed in stays as it is, spare room too, whether it is let pass or refused; and nothing hangs on that room.
func TestStatementsStay(t *testing.T) {
	r := rand.New(rand.NewSource(5))
	for range 5000 {
		x := random(r)
		for range r.Intn(3) {
			spoil(r, &x)
		}
		in := sample.StmtWithRoom(x)
		was := sample.ShowStmtRoom(in)
		e := check.Stmt(in)
		if sample.ShowStmtRoom(in) != was {
			t.Fatalf("%s was changed", cut(was))
		}
		if f := check.Stmt(x); e != f {
			t.Fatalf("%s: %d, without room %d", cut(show(x)), int(e), int(f))
		}
	}
}

// R4: so of the values of which Id is asked; and what it tells hangs no more on them.
func TestValuesStay(t *testing.T) {
	l := append(sample.Nested(), document(number(1)), document(text("abcdef")), doc(field("aa", list(null)), field("id", text("abcdef"))), document(list(list())))
	for _, f := range bad {
		l = append(l, f.V, document(f.V))
	}
	for _, v := range l {
		in := sample.WithRoom(v)
		was := sample.ShowRoom(in)
		id, e := check.Id(in)
		again, f := check.Id(v)
		if sample.ShowRoom(in) != was {
			t.Errorf("%s was changed", short(v))
		}
		if e != f || sample.Show(id) != sample.Show(again) || !sample.Apart([]api.Val{in, id, again}) {
			t.Errorf("%s: %s, %d, then %s, %d", short(v), short(id), int(e), short(again), int(f))
		}
	}
	b := []byte("abcdef")
	id, e := check.Id(document(text(unsafe.String(&b[0], len(b)))))
	clear(b)
	if e != api.OK || id.S != "abcdef" {
		t.Errorf("%q, %d", id.S, int(e))
	}
}

// R4: what Text tells is new memory, and hangs no more on its text.
func TestStatementsAreNew(t *testing.T) {
	for _, s := range rich {
		want, e := check.Text(s)
		other, _ := check.Text(s)
		b := []byte(s)
		x, f := check.Text(unsafe.String(&b[0], len(b)))
		clear(b)
		if e != api.OK || f != api.OK || show(x) != show(want) {
			t.Errorf("%q: %d, %s", s, int(f), show(x))
		}
		if !sample.StmtsApart(want, other, x) {
			t.Errorf("%q: two lists share memory", s)
		}
	}
}

// R4: nil and an empty list are one.
func TestEmptyLists(t *testing.T) {
	empty := func(v api.Val) api.Val {
		v.L, v.F = []api.Val{}, []api.Field{}
		return v
	}
	for _, verb := range verbs() {
		for _, v := range []api.Val{{}, null, number(7), text("a"), list(), doc()} {
			x := api.Stmt{Verb: verb, V: v, Where: test("x", "in", v)}
			y := api.Stmt{Verb: verb, V: empty(v), Where: api.Cond{Op: "in", Path: "x", V: empty(v), L: []api.Cond{}}, Order: []api.Order{}, Show: []string{}, Changes: []api.Change{}}
			if e, f := check.Stmt(x), check.Stmt(y); e != f {
				t.Errorf("%s: %d, then %d", show(x), int(e), int(f))
			}
		}
	}
	has(t, api.Val{Kind: api.Doc, L: []api.Val{}, F: []api.Field{field("id", empty(number(1)))}}, number(1), api.OK)
	has(t, empty(doc()), api.Val{}, api.ErrKey)
}

// R1: statements, values and paths that are great.
func TestVeryGreat(t *testing.T) {
	deep := sample.Within(1<<16-1, exists("x"), not)
	wide := api.Cond{Op: "or", L: make([]api.Cond, 1<<20)}
	lets(t, api.Stmt{Verb: "find", Where: deep}, api.Stmt{Verb: "find", Where: wide}, api.Stmt{Verb: "find", Where: test("x", "=", sample.DeepLists(1<<16))}, api.Stmt{Verb: "find", Where: test("x", "in", sample.Nulls(1<<16))})
	refuses(t, api.ErrKind, api.Stmt{Verb: "find", Where: sample.Within(1<<16-1, test("x", "in", null), not)})
	wide.L[1<<20-1] = test("x", "in", null)
	refuses(t, api.ErrKind, api.Stmt{Verb: "find", Where: wide})
	refuses(t, api.ErrLimit, api.Stmt{Order: make([]api.Order, 1<<20)}, api.Stmt{Show: make([]string, 1<<20)}, api.Stmt{Changes: make([]api.Change, 1<<20)})
	great := strings.Repeat("a.", 1<<22) + "a"
	lets(t, api.Stmt{Verb: "index", Path: great}, api.Stmt{Verb: great, Coll: great}, api.Stmt{Order: orders(great, "x")}, api.Stmt{Changes: changes(great, great)})
	refuses(t, api.ErrSyntax, api.Stmt{Show: []string{great}})
	refuses(t, api.ErrDup, api.Stmt{Order: orders(great, great)})
	lets(t, api.Stmt{Verb: "insert", V: doc(append(sample.Fields(1<<16).F, field("id", number(1)))...)})
	has(t, document(sample.DeepDocs(1<<16)), api.Val{}, api.ErrDeep)
	has(t, sample.Nulls(1<<16), api.Val{}, api.ErrLimit)
	tells(t, great, api.ErrBig)
}

// R1, R2, R5: whatever is handed in: each call ends, tells nothing beside an error, and tells it again.
func TestAnything(t *testing.T) {
	r := rand.New(rand.NewSource(6))
	for range 20000 {
		s := sample.AnyText(r, "find a insert get id x.0 limit 65{}[]\"\",=", 40, 60)
		s = one(r, "", "find a ", "update a set ", "insert a ", "index a ") + s
		x, e := check.Text(s)
		check.Text(rich[0])
		y, f := check.Text(s)
		if e != f || show(x) != show(y) || e != api.OK && show(x) != show(api.Stmt{}) {
			t.Fatalf("%q: %s, %d, then %s, %d", s, show(x), int(e), show(y), int(f))
		}
		v := one(r, maker(r).Value(3), one(r, bad...).V, document(maker(r).Value(1)))
		id, g := check.Id(v)
		if again, h := check.Id(v); g != h || sample.Show(id) != sample.Show(again) || g != api.OK && sample.Show(id) != sample.Show(api.Val{}) {
			t.Fatalf("%s: %s, %d, then %s, %d", short(v), short(id), int(g), short(again), int(h))
		}
		a, b := one(r, append(badPaths, s, "a", "id")...), one(r, s, "a", "id.x")
		touches(t, a, b, meets(a, b))
	}
}
