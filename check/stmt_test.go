package check_test

import (
	"math/rand"
	"slices"
	"strings"
	"testing"

	"tidemark/api"
	"tidemark/check"
	"tidemark/sample"
)

// ids are values that are ids, good or not.
var ids = []api.Val{
	number(0), number(-5), number(1<<63 - 1), number(-1 << 63), text(""), text("a"), text("\u00e4"), text(letters(63)), text(letters(64)), text(strings.Repeat("\u00e4", 32)),
	text("\xff"), text(strings.Repeat("\xff", 64)), {Kind: api.Int, S: letters(65)}, {Kind: api.Int, L: []api.Val{null}}, {Kind: api.Text, N: 7, S: "a", F: []api.Field{field("id", null)}},
}

// noIds are values that are none.
var noIds = []api.Val{
	null, boolean(0), boolean(1), list(), doc(), list(number(1)), document(number(1)), text(letters(65)), text(letters(66)), text(strings.Repeat("\u00e4", 33)), text(letters(5000)), text(strings.Repeat("\xff", 65)),
	{}, {Kind: 7}, {Kind: -1, N: 5}, {Kind: 256 + api.Int}, {Kind: api.Null, N: 1}, {Kind: api.Bool, N: 2}, {S: "a"}, {Kind: api.List, S: "a"}, sample.DeepLists(1 << 16), sample.Nulls(1 << 16),
}

// putting are the verbs that put a document.
var putting = []string{"insert", "replace"}

// P16.1: insert and replace of a V that is no Doc.
func TestPutNoDoc(t *testing.T) {
	l := slices.Concat(noIds, ids, []api.Val{{Kind: api.List, F: []api.Field{field("id", number(1))}}, {F: []api.Field{field("id", number(1))}}, {Kind: 7, F: []api.Field{field("id", number(1))}}})
	for _, v := range l {
		if v.Kind == api.Doc {
			continue
		}
		make := func(verb string) api.Stmt { return api.Stmt{Verb: verb, Coll: "a", V: v} }
		refuses(t, api.ErrKind, of(putting, make)...)
		lets(t, of(others("insert", "replace", "get"), make)...)
	}
}

// P16.1: insert and replace of a Doc without a field id, or with one that is no id; the same with one that is.
func TestPutId(t *testing.T) {
	put := func(v api.Val) []api.Stmt {
		return of(putting, func(verb string) api.Stmt { return api.Stmt{Verb: verb, Coll: "a", V: v} })
	}
	for _, v := range []api.Val{
		doc(), doc(field("x", number(1))), doc(field("Id", number(1))), doc(field("ID", number(1))), doc(field("i", number(1))), doc(field("ida", number(1))), doc(field("", number(1))), doc(field("id ", number(1))), doc(field("x", document(number(1)))),
		{Kind: api.Doc, L: []api.Val{document(number(1))}}, {Kind: api.Doc, N: 1, S: "id"}, sample.Fields(1000), sample.DeepDocs(1 << 16),
	} {
		refuses(t, api.ErrKey, put(v)...)
	}
	for _, id := range noIds {
		refuses(t, api.ErrKey, put(document(id))...)
		refuses(t, api.ErrKey, put(doc(field("a", null), field("id", id), field("x", number(1))))...)
		// Of two fields of that name the first one is it.
		refuses(t, api.ErrKey, put(doc(field("id", id), field("id", number(1))))...)
		lets(t, put(doc(field("id", number(1)), field("id", id)))...)
	}
	for _, id := range ids {
		lets(t, put(document(id))...)
		lets(t, put(doc(field("a", null), field("id", id), field("x", number(1))))...)
		lets(t, put(doc(field("x", null), field("id", id), field("a", number(1))))...)
		lets(t, put(doc(field("\xff", api.Val{}), field("", boolean(2)), field("id", id)))...)
		lets(t, put(api.Val{Kind: api.Doc, N: 5, S: "\xff", L: noIds, F: []api.Field{field("id", id)}})...)
	}
	big := sample.Fields(1000)
	lets(t, put(doc(append(big.F, field("id", number(1)), field(letters(25), text(letters(5000))))...))...)
}

// P16.1: no other verb asks for a document.
func TestOthersPutNothing(t *testing.T) {
	for _, v := range []api.Val{{}, null, number(1), doc(), document(null), document(text(letters(65))), {Kind: 9}} {
		lets(t, of(others("insert", "replace", "get"), func(verb string) api.Stmt { return api.Stmt{Verb: verb, V: v} })...)
	}
}

// P16.1: get of what is an id, and of what is none.
func TestGet(t *testing.T) {
	get := func(v api.Val) api.Stmt { return api.Stmt{Verb: "get", Coll: "a", V: v} }
	for _, v := range ids {
		lets(t, get(v))
		refuses(t, api.ErrKey, get(document(v)), get(list(v)))
	}
	for _, v := range noIds {
		refuses(t, api.ErrKey, get(v))
	}
	for _, f := range bad {
		if f.V.Kind != api.Int && f.V.Kind != api.Text {
			refuses(t, api.ErrKey, get(f.V))
		}
	}
}

// P16.1: index and unindex of a Path that touches `id`, and of one that does not.
func TestIndex(t *testing.T) {
	index := func(p string) func(verb string) api.Stmt {
		return func(verb string) api.Stmt { return api.Stmt{Verb: verb, Coll: "a", Path: p} }
	}
	these := []string{"index", "unindex"}
	for _, p := range []string{"id", "id.x", "id.0", "id.id", "id.a.b.c.d.e.f.g", "id." + letters(24)} {
		refuses(t, api.ErrKey, of(these, index(p))...)
		lets(t, of(others("index", "unindex", "insert", "replace", "get"), index(p))...)
	}
	for _, p := range append([]string{"i", "ida", "idx.id", "x", "x.id", "0", "0.id", "Id", "ID", "_id", "id_", "a.b.c.d.e.f.g.h", letters(24)}, badPaths...) {
		lets(t, of(these, index(p))...)
	}
}

// P16.1: a Limit from 0 to MaxDocs, below and above, whatever the verb.
func TestLimit(t *testing.T) {
	for _, n := range append(sample.Numbers(64), 2, 32, 63) {
		want := api.OK
		if n < 0 || n > 64 {
			want = api.ErrArg
		}
		refuses(t, want, anyVerb(api.Stmt{Limit: n})...)
	}
}

// holders lay a condition at every place of another one.
var holders = []func(api.Cond) api.Cond{
	func(c api.Cond) api.Cond { return c },
	not,
	func(c api.Cond) api.Cond { return or(c, exists("x")) },
	func(c api.Cond) api.Cond { return or(exists("x"), c) },
	func(c api.Cond) api.Cond { return or(exists("x"), exists("y"), c, exists("z")) },
	func(c api.Cond) api.Cond { return and(c, test("x", "in", list())) },
	func(c api.Cond) api.Cond { return and(test("x", "in", list()), c) },
	func(c api.Cond) api.Cond { return and(not(or(exists("x"), exists("y"))), or(not(not(c)), exists("z"))) },
	// No text tells these.
	func(c api.Cond) api.Cond { return or(c) },
	func(c api.Cond) api.Cond { return api.Cond{Op: "not", L: []api.Cond{{}, c}} },
	func(c api.Cond) api.Cond { return api.Cond{L: []api.Cond{c}} },
	func(c api.Cond) api.Cond { return api.Cond{Op: "foo", Path: "\xff", L: []api.Cond{c, {}}} },
	func(c api.Cond) api.Cond { return api.Cond{Op: "exists", Path: "x", L: []api.Cond{c}} },
	func(c api.Cond) api.Cond { return api.Cond{Op: "in", Path: "x", V: list(), L: []api.Cond{c}} },
	func(c api.Cond) api.Cond { return sample.Within(1<<14, c, not) },
}

// P16.1: an `in` without a List, at every place of a Where, whatever the verb.
func TestWhere(t *testing.T) {
	lists := []api.Val{list(), list(null), list(list(), doc()), sample.Nulls(33), sample.DeepLists(9), list(api.Val{}), {Kind: api.List, N: 1, S: "\xff"}}
	noLists := []api.Val{{}, null, boolean(1), number(5), text("[]"), doc(), document(list()), {Kind: 7}, {L: []api.Val{null}}, {Kind: api.Doc, L: []api.Val{null}}, {Kind: 256 + api.List}}
	for _, hold := range holders {
		for _, path := range []string{"x", "id", "a.0", "", "\xff"} {
			for _, v := range lists {
				lets(t, api.Stmt{Verb: "find", Coll: "a", Where: hold(test(path, "in", v))})
			}
			for _, v := range noLists {
				refuses(t, api.ErrKind, api.Stmt{Verb: "find", Coll: "a", Where: hold(test(path, "in", v))})
				for _, op := range append(sample.Signs(), "exists", "", "In", "not", "or", "foo") {
					lets(t, api.Stmt{Verb: "find", Coll: "a", Where: hold(test(path, op, v))})
				}
			}
		}
		if t.Failed() {
			return
		}
	}
	bad := test("x", "in", number(5))
	for _, hold := range holders[:10] {
		for _, in := range holders[:10] {
			refuses(t, api.ErrKind, anyVerb(api.Stmt{Where: hold(in(bad))})...)
			lets(t, anyVerb(api.Stmt{Where: hold(in(test("x", "in", list(number(5)))))})...)
		}
	}
}

// P16.1: 4 Orders and 5, and two of the same Path, whatever the verb.
func TestOrder(t *testing.T) {
	for n := range 5 {
		lets(t, anyVerb(api.Stmt{Order: orders(paths(n)...)})...)
	}
	for _, n := range []int{5, 6, 100, 100000} {
		refuses(t, api.ErrLimit, api.Stmt{Verb: "find", Coll: "a", Order: slices.Repeat(orders("x"), n)})
		refuses(t, api.ErrLimit, anyVerb(api.Stmt{Order: orders(paths(min(n, 100))...)})...)
	}
	for _, l := range [][]string{{"x", "x"}, {"x", "y", "x"}, {"a", "x", "y", "x"}, {"x", "a", "b", "x"}, {"a", "b", "x", "x"}, {"x.y", "x.y"}, {"x", "x", "x", "x"}, {"id", "id"}, {"0", "0"}, {"", ""}, {"\xff", "\xff"}, {"a b", "c", "a b"}, {letters(1000), letters(1000)}} {
		refuses(t, api.ErrDup, anyVerb(api.Stmt{Order: orders(l...)})...)
		turned := orders(l...)
		turned[0].Desc = true
		refuses(t, api.ErrDup, anyVerb(api.Stmt{Order: turned})...)
	}
	for _, l := range [][]string{{"x", "x.y"}, {"x.y", "x"}, {"x", "X"}, {"x.y", "x.z", "y.x", "y"}, {"id", "id.x", "ids"}, {"0", "00", "x.0", "x.1"}, {"", " "}, {"x", "x.", "x ", ".x"}} {
		lets(t, anyVerb(api.Stmt{Order: orders(l...)})...)
	}
}

// P16.1: 8 Shows and 9; those that are no paths, or have a step that is a place; those that touch another one; whatever the verb.
func TestShow(t *testing.T) {
	for n := range 9 {
		lets(t, anyVerb(api.Stmt{Show: paths(n)})...)
	}
	for _, n := range []int{9, 10, 100, 100000} {
		refuses(t, api.ErrLimit, api.Stmt{Verb: "find", Coll: "a", Show: slices.Repeat([]string{"x"}, n)})
		refuses(t, api.ErrLimit, anyVerb(api.Stmt{Show: paths(min(n, 100))})...)
	}
	for _, p := range append([]string{"0", "99", "x.0", "0.x", "x.0.y", "x.y.10", "a.b.c.d.e.f.g.0", "1.2.3", "id.0"}, badPaths...) {
		for n := range 8 {
			for at := range n + 1 {
				refuses(t, api.ErrSyntax, api.Stmt{Verb: "find", Coll: "a", Show: slices.Insert(paths(n), at, p)})
			}
		}
		refuses(t, api.ErrSyntax, anyVerb(api.Stmt{Show: []string{p}})...)
	}
	for _, l := range touching {
		refuses(t, api.ErrDup, anyVerb(api.Stmt{Show: l})...)
	}
	for _, l := range apart {
		lets(t, anyVerb(api.Stmt{Show: l})...)
	}
	lets(t, anyVerb(api.Stmt{Show: []string{"id", "x"}})...)
	lets(t, anyVerb(api.Stmt{Show: []string{"id.x", "id.y"}})...)
}

// touching are lists of paths in which one touches another one, apart those in which none does.
var (
	touching = [][]string{{"x", "x"}, {"x.y", "x.y"}, {"x", "x.y"}, {"x.y", "x"}, {"x.y.z", "x"}, {"x.y", "x.y.z"}, {"a", "x", "b", "x"}, {"x.y", "a", "b", "c", "d", "e", "f", "x"}, {"a", "b", "c", "d", "e", "f", "x", "x.y"}, {"x", "x", "x"}, {"a.b.c.d.e.f.g.h", "a"}}
	apart    = [][]string{{"x", "y"}, {"x", "xy"}, {"xy", "x"}, {"x.y", "x.z"}, {"x.y", "y.x", "y.z", "z"}, {"x.y", "x.yz", "x.Y"}, {"X", "x"}, {"x.y.z", "x.z.y", "x.z.z", "x.zz"}, {"x_", "x"}, {"a.b.c.d.e.f.g.h", "a.b.c.d.e.f.g.i"}}
)

// P16.1: 8 Changes and 9; those that touch `id`, or another one; whatever the verb, and whatever they do.
func TestChanges(t *testing.T) {
	for n := range 9 {
		lets(t, anyVerb(api.Stmt{Changes: changes(paths(n)...)})...)
	}
	for _, n := range []int{9, 10, 100, 100000} {
		refuses(t, api.ErrLimit, api.Stmt{Verb: "update", Coll: "a", Changes: slices.Repeat(changes("x"), n)})
		refuses(t, api.ErrLimit, anyVerb(api.Stmt{Changes: changes(paths(min(n, 100))...)})...)
	}
	for _, p := range []string{"id", "id.x", "id.0", "id.a.b.c.d.e.f.g"} {
		for n := range 8 {
			for at := range n + 1 {
				refuses(t, api.ErrKey, api.Stmt{Verb: "update", Coll: "a", Changes: changes(slices.Insert(paths(n), at, p)...)})
			}
		}
		refuses(t, api.ErrKey, anyVerb(api.Stmt{Changes: changes(p)})...)
	}
	for _, l := range touching {
		refuses(t, api.ErrDup, anyVerb(api.Stmt{Changes: changes(l...)})...)
	}
	refuses(t, api.ErrDup, anyVerb(api.Stmt{Changes: changes("x.0", "x")})...)
	refuses(t, api.ErrDup, anyVerb(api.Stmt{Changes: changes("0", "0.1")})...)
	for _, l := range append(apart, []string{"x.0", "x.1"}, []string{"1", "10"}, []string{"x.id", "ida", "i"}, []string{"ID", "Id"}) {
		lets(t, anyVerb(api.Stmt{Changes: changes(l...)})...)
	}
	// What is no path touches nothing, itself neither.
	for _, p := range badPaths {
		lets(t, anyVerb(api.Stmt{Changes: changes(p, p, "x")})...)
	}
	for _, do := range []string{"set", "unset", "push", "add", "", "foo"} {
		for _, v := range []api.Val{{}, null, number(1), doc(), {Kind: 9}} {
			lets(t, api.Stmt{Verb: "update", Changes: []api.Change{sample.Change(do, "x", v), sample.Change(do, "y", v)}})
			refuses(t, api.ErrKey, api.Stmt{Verb: "update", Changes: []api.Change{sample.Change(do, "id", v)}})
			refuses(t, api.ErrDup, api.Stmt{Verb: "update", Changes: []api.Change{sample.Change(do, "x", v), sample.Change("set", "x.y", v)}})
		}
	}
}

// breakers break one rule each, in the chapter's order. One leaves what those behind it broke, but of two verbs that of the first one stands.
var breakers = []struct {
	put  func(x *api.Stmt)
	want api.Errno
}{
	{func(x *api.Stmt) { x.Verb, x.V = "insert", null }, api.ErrKind},
	{func(x *api.Stmt) { x.Verb, x.V = "insert", doc() }, api.ErrKey},
	{func(x *api.Stmt) { x.Verb, x.V = "replace", number(1) }, api.ErrKind},
	{func(x *api.Stmt) { x.Verb, x.V = "replace", document(null) }, api.ErrKey},
	{func(x *api.Stmt) { x.Verb, x.V = "get", null }, api.ErrKey},
	{func(x *api.Stmt) { x.Verb, x.Path = "index", "id" }, api.ErrKey},
	{func(x *api.Stmt) { x.Verb, x.Path = "unindex", "id.x" }, api.ErrKey},
	{func(x *api.Stmt) { x.Limit = 65 }, api.ErrArg},
	{func(x *api.Stmt) { x.Where = test("x", "in", null) }, api.ErrKind},
	{func(x *api.Stmt) { x.Order = append(x.Order, orders("a", "b", "c", "d", "e")...) }, api.ErrLimit},
	{func(x *api.Stmt) { x.Order = append(x.Order, orders("x", "x")...) }, api.ErrDup},
	{func(x *api.Stmt) { x.Show = append(x.Show, "a", "b", "c", "d", "e", "f", "g", "h", "i") }, api.ErrLimit},
	{func(x *api.Stmt) { x.Show = append(x.Show, "l.0") }, api.ErrSyntax},
	{func(x *api.Stmt) { x.Show = append(x.Show, "x", "x.y") }, api.ErrDup},
	{func(x *api.Stmt) {
		x.Changes = append(x.Changes, changes("a", "b", "c", "d", "e", "f", "g", "h", "i")...)
	}, api.ErrLimit},
	{func(x *api.Stmt) { x.Changes = append(x.Changes, changes("id")...) }, api.ErrKey},
	{func(x *api.Stmt) { x.Changes = append(x.Changes, changes("x.y", "x")...) }, api.ErrDup},
}

// P16.1: of all rules that a statement breaks the first one is told: of each two, and of any number.
func TestFirst(t *testing.T) {
	for set := range 1 << len(breakers) {
		x, want := api.Stmt{Verb: "find", Coll: "a"}, api.OK
		for i := range breakers {
			at := len(breakers) - 1 - i
			if set>>at&1 == 1 {
				breakers[at].put(&x)
				want = breakers[at].want
			}
		}
		if e := check.Stmt(x); e != want {
			t.Fatalf("Stmt of %s: %d, want %d", show(x), int(e), int(want))
		}
	}
}

// P16.1: statements by chance, as they are and with parts changed, held against another hand.
func TestStmtByChance(t *testing.T) {
	r := rand.New(rand.NewSource(1))
	told := map[api.Errno]int{}
	for range 50000 {
		x := random(r)
		for range r.Intn(3) * r.Intn(4) {
			spoil(r, &x)
		}
		want := otherwise(x)
		told[want]++
		if e := check.Stmt(x); e != want {
			t.Fatalf("Stmt of %s: %d, want %d", cut(show(x)), int(e), int(want))
		}
	}
	for _, e := range []api.Errno{api.OK, api.ErrArg, api.ErrKind, api.ErrKey, api.ErrDup, api.ErrSyntax, api.ErrLimit} {
		if told[e] < 300 {
			t.Errorf("error %d was told of %d statements", int(e), told[e])
		}
	}
}
