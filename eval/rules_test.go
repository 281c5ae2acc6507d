package eval_test

import (
	"fmt"
	"math/rand"
	"slices"
	"strings"
	"testing"
	"unsafe"

	"tidemark/api"
	"tidemark/eval"
	"tidemark/sample"
)

// asked is one of each call's arguments.
type asked struct {
	doc     api.Val
	docs    []api.Val
	cond    api.Cond
	orders  []api.Order
	paths   []string
	changes []api.Change
	find    api.Stmt
}

// held is all of a as one statement, which holds its lists as they are.
func (a asked) held() []api.Stmt {
	return []api.Stmt{{V: a.doc, Where: a.cond, Order: a.orders, Show: a.paths, Changes: a.changes}, {V: list(a.docs...)}, a.find}
}

// shown is all of a as a text, spare room too.
func (a asked) shown() string {
	s := ""
	for _, x := range a.held() {
		s += sample.ShowStmtRoom(x)
	}
	return s + sample.ShowRoom(api.Val{L: a.docs})
}

// withRoom is a in new memory, with spare room in each list.
func (a asked) withRoom() asked {
	x := sample.StmtWithRoom(api.Stmt{V: a.doc, Where: a.cond, Order: a.orders, Show: a.paths, Changes: a.changes})
	return asked{x.V, sample.WithRoom(api.Val{L: a.docs}).L, x.Where, x.Order, x.Show, x.Changes, sample.StmtWithRoom(a.find)}
}

// answers are all that the calls answer of a, and all of that as a text; lists are told as Lists.
func answers(a asked) ([]api.Val, string) {
	is, e := eval.Holds(a.cond, a.doc)
	sorted, f := eval.Sort(a.docs, a.orders)
	shown, g := eval.Show(a.doc, a.paths)
	applied, h := eval.Apply(a.doc, a.changes)
	found, i := eval.Find(a.docs, a.find)
	l := []api.Val{{L: sorted}, shown, applied, {L: found}}
	return l, fmt.Sprint(toldBool(is, e), "; ", toldList(sorted, f), "; ", told(shown, g), "; ", told(applied, h), "; ", toldList(found, i))
}

// rich are documents, conditions and others in which all kinds of lists and texts stand, all of them good.
func rich() []asked {
	docs := vals(`{"id":2,"l":[["xyz"],{"bb":[1,2]}],"t":"text"},{"id":1,"l":[["xyz"],{}],"u":{"v":{"w":"long"}}},{"id":"some","l":[]}`)
	s := `find some where l.0 in [["xyz"],[[]],"text"] or not ( t = "text" and u exists ) order by l.1.bb , t desc`
	l := []asked{}
	for _, v := range docs {
		for _, show := range []string{"", " show l, u.v, id"} {
			x := stmt(s + show)
			l = append(l, asked{v, docs, x.Where, x.Order, x.Show, changes(`set a.b = ["x",{"y":[]}], unset t, push l [["z"]], add n 0`)[:2+len(show)%3], x})
		}
	}
	return append(l, asked{})
}

// randomAsked are arguments by chance, good or not.
func randomAsked(r *rand.Rand) asked {
	a := asked{doc: random(r), docs: randoms(r, 8), orders: randomOrders(r, 6), paths: randomPaths(r, 5), changes: randomChanges(r, 5)}
	a.cond = randomCond(r, a.doc)
	a.find = api.Stmt{Verb: "find", Coll: "a", Where: a.cond, Order: randomOrders(r, 4), Limit: r.Intn(5), Show: a.paths}
	if r.Intn(2) == 0 {
		return a
	}
	v, p := one(r, bad...).V, one(r, badPaths...)
	switch r.Intn(8) {
	case 0:
		a.doc = v
	case 1:
		a.docs = append(a.docs, v)
	case 2:
		a.orders = append(a.orders, api.Order{Path: p})
	case 3:
		a.paths = append(a.paths, one(r, p, "a", "a.0", "a.b"))
	case 4:
		a.changes = append(a.changes, sample.Change(one(r, "set", "unset", "push", "add", "foo"), one(r, p, "a", "a.b", "id"), v))
	case 5:
		a.cond = one(r, within(one(r, sample.BadConds()...))...)
	case 6:
		a.find.Where = api.Cond{Op: "in", Path: p, V: v}
	case 7:
		a.find.Verb, a.find.Limit = one(r, "find", "count"), one(r, sample.Numbers(64)...)
	}
	return a
}

// R4: what is handed in stays as it is, spare room too, whether it is taken or refused; and nothing hangs on that room. R5: it is told again.
func TestArgumentsStay(t *testing.T) {
	r := rand.New(rand.NewSource(10))
	l := rich()
	for range 5000 {
		l = append(l, randomAsked(r))
	}
	for _, a := range l {
		in := a.withRoom()
		was := in.shown()
		_, got := answers(in)
		if in.shown() != was {
			t.Fatalf("%s was changed to %s", cut(was), cut(in.shown()))
		}
		_, again := answers(in)
		_, without := answers(a)
		if got != again || got != without {
			t.Fatalf("%s, then %s, without room %s", got, again, without)
		}
	}
}

// R4: what is told is new memory, and no two lists of it share any, with what was handed in neither.
func TestAnswersAreNew(t *testing.T) {
	r := rand.New(rand.NewSource(11))
	l := rich()
	for range 2000 {
		l = append(l, randomAsked(r))
	}
	// One document may be handed in twice.
	twice := rich()[0]
	twice.docs = append(twice.docs, twice.docs...)
	l = append(l, twice)
	for _, a := range l {
		in := a.withRoom()
		got, s := answers(in)
		more, _ := answers(in)
		if !sample.StmtsApart(append(in.held(), api.Stmt{V: list(got...)}, api.Stmt{V: list(more...)})...) {
			t.Fatalf("lists share memory: %s", s)
		}
	}
}

// R4: an answer hangs no more on the lists and texts that were handed in.
func TestNothingIsKept(t *testing.T) {
	for _, a := range rich() {
		b := [][]byte{}
		mine := func(s string) string {
			b = append(b, []byte(s+" "))
			return unsafe.String(&b[len(b)-1][0], len(s))
		}
		in := a.withRoom()
		var over func(v *api.Val)
		over = func(v *api.Val) {
			v.S = mine(v.S)
			for i := range v.L {
				over(&v.L[i])
			}
			for i := range v.F {
				v.F[i].Name = mine(v.F[i].Name)
				over(&v.F[i].V)
			}
		}
		over(&in.doc)
		for i := range in.docs {
			over(&in.docs[i])
		}
		for i := range in.changes {
			in.changes[i].Path = mine(in.changes[i].Path)
			over(&in.changes[i].V)
		}
		for i := range in.paths {
			in.paths[i] = mine(in.paths[i])
		}
		got, s := answers(in)
		was := sample.Show(list(got...))
		for _, x := range b {
			clear(x)
		}
		clear(in.docs)
		clear(in.changes)
		clear(in.paths)
		clear(in.doc.F)
		if now := sample.Show(list(got...)); now != was {
			t.Errorf("%s: %s, then %s", s, was, now)
		}
	}
}

// R4: nil and an empty list are one.
func TestEmptyLists(t *testing.T) {
	var full func(v api.Val) api.Val
	full = func(v api.Val) api.Val {
		l, f := []api.Val{}, []api.Field{}
		for _, x := range v.L {
			l = append(l, full(x))
		}
		for _, x := range v.F {
			f = append(f, field(x.Name, full(x.V)))
		}
		v.L, v.F = l, f
		return v
	}
	var fullCond func(c api.Cond) api.Cond
	fullCond = func(c api.Cond) api.Cond {
		l := []api.Cond{}
		for _, x := range c.L {
			l = append(l, fullCond(x))
		}
		c.V, c.L = full(c.V), l
		return c
	}
	r := rand.New(rand.NewSource(12))
	for range 2000 {
		a := randomAsked(r)
		b := a
		b.doc, b.docs, b.cond = full(a.doc), full(api.Val{L: a.docs}).L, fullCond(a.cond)
		b.orders, b.paths, b.changes = append([]api.Order{}, a.orders...), append([]string{}, a.paths...), append([]api.Change{}, a.changes...)
		b.find.V, b.find.Where, b.find.Changes = full(a.find.V), fullCond(a.find.Where), []api.Change{}
		b.find.Order, b.find.Show = append([]api.Order{}, a.find.Order...), append([]string{}, a.find.Show...)
		_, x := answers(a)
		_, y := answers(b)
		if x != y {
			t.Fatalf("%s, then %s", x, y)
		}
	}
}

// R1: what is very great is refused or taken, as the chapter says.
func TestVeryGreat(t *testing.T) {
	v := val(example)
	wide := or(slices.Repeat([]api.Cond{exists("x")}, 1<<20)...)
	for _, c := range []api.Cond{wide, sample.Within(1<<16-1, exists("x"), not), test("x", "=", sample.DeepLists(1<<16)), test("x", "in", sample.Nulls(1<<16)), exists(strings.Repeat("a.", 1<<22) + "a"), {Op: letters(1 << 22), Path: "x"}} {
		refuses(t, c, v, api.ErrForm)
		findsNone(t, []api.Val{v}, api.Stmt{Verb: "find", Coll: "a", Where: c}, api.ErrArg)
	}
	great := []sample.Fault{{V: sample.DeepLists(1 << 16), E: api.ErrDeep}, {V: sample.DeepDocs(1 << 16), E: api.ErrDeep}, {V: sample.Nulls(1 << 16), E: api.ErrLimit}, {V: text(letters(1 << 22)), E: api.ErrBig}, {V: document(text(letters(1 << 22))), E: api.ErrBig}}
	for _, g := range great {
		refuses(t, exists("x"), g.V, g.E)
		sortsNone(t, []api.Val{g.V}, nil, g.E)
		showsNone(t, g.V, nil, g.E)
		appliesNone(t, g.V, nil, g.E)
		findsNone(t, []api.Val{g.V}, stmt("find a"), g.E)
		appliesNone(t, v, []api.Change{sample.Change("set", "y", g.V)}, g.E)
	}
	showsNone(t, v, []string{strings.Repeat("a.", 1<<22) + "a"}, api.ErrForm)
	appliesNone(t, v, []api.Change{sample.Change("unset", letters(1<<22), api.Val{})}, api.ErrSyntax)
	is(t, "Sort by very many", toldList(eval.Sort(vals(example), slices.Repeat(orders("x"), 1<<16))), example)
}

// R1: very many documents are sorted, and found.
func TestVeryMany(t *testing.T) {
	const n = 20000
	var many, up []api.Val
	for i := range int64(n) {
		many = append(many, doc(field("id", number(i*7919%n)), field("x", number(i*7919%n%5))))
	}
	for x := range int64(5) {
		for id := n - 5 + x; id >= 0; id -= 5 {
			up = append(up, doc(field("id", number(id)), field("x", number(x))))
		}
	}
	told, e := eval.Sort(many, orders("x, id desc"))
	if e != api.OK || toldList(told, e) != toldList(up, api.OK) {
		t.Errorf("%d documents, %d", len(told), int(e))
	}
	is(t, "Find of many", toldList(eval.Find(many, stmt("find a where x = 3 order by id desc limit 2 show id"))), `{"id":19998},{"id":19993}`)
}

// R1, R2, R5: whatever is handed in: each call ends, tells nothing beside an error, and tells it again, whatever was asked between.
func TestAnything(t *testing.T) {
	r := rand.New(rand.NewSource(13))
	seen := map[string]int{}
	for range 5000 {
		a := randomAsked(r)
		_, x := answers(a)
		answers(rich()[0])
		_, y := answers(a)
		if x != y || strings.Contains(x, "beside") || strings.Contains(x, "not good") {
			t.Fatalf("%s, then %s", x, y)
		}
		for _, part := range strings.Split(x, "; ") {
			seen[part]++
		}
	}
	counted(t, seen, 20, fault(api.ErrArg), fault(api.ErrForm), fault(api.ErrKind), fault(api.ErrName))
}
