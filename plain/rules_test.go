package plain_test

import (
	"fmt"
	"math/rand"
	"slices"
	"strings"
	"testing"
	"unsafe"

	"tidemark/api"
	"tidemark/plain"
	"tidemark/sample"
)

// rich is a state with lists of each sort.
func rich(t *testing.T) api.State {
	t.Helper()
	return after(t, `make aa; index aa xx; index aa yy; insert aa {"id":1,"xx":[[1,"long"],{"yy":"longer"}]}; insert aa {"id":"two","xx":5,"tt":["one"]}; make bb; insert bb {"id":3}; make cc`)
}

// asked are statements of rich, of each verb, with each part that one may have.
var asked = []string{
	"make dd", "make aa", "drop bb", "index aa zz.0", "index aa xx", "unindex aa xx", `insert aa {"id":7,"xx":[["some"],{"yy":["more"]}]}`, `insert aa {"id":1}`, `replace aa {"id":"two","xx":[["some"]]}`, "get aa 1", `get aa "two"`, "get aa 9",
	`find aa where xx exists or yy in [["some"],5] order by xx desc, yy limit 5 show xx, yy.zz, id`, "find aa", `count aa where xx = 5 or xx = [[1,"long"],{"yy":"longer"}]`, `update aa where xx = 5 set zz = [["some"],{"yy":[]}], push tt ["two"], add xx 1, unset yy`, "update aa add xx 1", "delete aa where xx = 5", "delete aa", "find zz",
}

// answers are the answers of all calls of s and x as a text, and the lists among them.
func answers(s api.State, x api.Stmt) (string, []any) {
	next, r := plain.Do(s, x)
	ran, q := plain.Run(s, "find "+x.Coll)
	docs, ok := plain.Docs(s, x.Coll)
	return fmt.Sprint(sample.ShowReply(r), sample.ShowState(next), sample.ShowReply(q), sample.ShowState(ran), sample.ShowReply(api.Reply{Docs: docs}), ok, plain.Hash(s), plain.Equal(s, next)), []any{next, r, ran, q, docs}
}

// R4: what is handed in stays as it is, spare room too, whether it is taken or refused, and nothing hangs on that room; what is told is new memory, and no two lists of it share any, with what was handed in neither. R5: it is told again.
func TestLists(t *testing.T) {
	r := rand.New(rand.NewSource(400))
	look := func(s api.State, x api.Stmt) {
		t.Helper()
		in, by := sample.StateWithRoom(s), sample.StmtWithRoom(x)
		was := sample.ShowStateRoom(in) + sample.ShowStmtRoom(by)
		got, l := answers(in, by)
		if now := sample.ShowStateRoom(in) + sample.ShowStmtRoom(by); now != was {
			t.Fatalf("%s was changed to %s", was, now)
		}
		again, m := answers(in, by)
		without, k := answers(s, x)
		if got != again || got != without {
			t.Fatalf("%s: %s, then %s, without room %s", sample.ShowStmt(x), got, again, without)
		}
		if !sample.AllApart(slices.Concat([]any{in, by}, l, m, k)...) {
			t.Fatalf("%s of %s: lists share memory", sample.ShowStmt(x), toldState(s))
		}
	}
	for _, text := range asked {
		look(rich(t), stmt(text))
	}
	var s api.State
	for range 4000 {
		x := random(r, s)
		look(sample.StateWithRoom(s), x)
		s, _ = plain.Do(s, x)
	}
}

// keeper hands out texts in memory that can be cleared later.
type keeper struct{ b [][]byte }

func (k *keeper) text(s string) string {
	k.b = append(k.b, []byte(s+" "))
	return unsafe.String(&k.b[len(k.b)-1][0], len(s))
}

func (k *keeper) value(v api.Val) api.Val {
	v = sample.WithRoom(v)
	v.S = k.text(v.S)
	for i, x := range v.L {
		v.L[i] = k.value(x)
	}
	for i, f := range v.F {
		v.F[i] = api.Field{Name: k.text(f.Name), V: k.value(f.V)}
	}
	return v
}

func (k *keeper) state(s api.State) api.State {
	s = sample.StateWithRoom(s)
	for i, c := range s.Colls {
		s.Colls[i].Name = k.text(c.Name)
		for j, v := range c.Docs {
			c.Docs[j] = k.value(v)
		}
		for j, p := range c.Indexes {
			c.Indexes[j] = k.text(p)
		}
	}
	return s
}

// R4: an answer hangs no more on the lists and texts that were handed in.
func TestNothingIsKept(t *testing.T) {
	for _, text := range asked {
		k := &keeper{}
		s, x := k.state(rich(t)), stmt(text)
		x.Coll, x.Path, x.V = k.text(x.Coll), k.text(x.Path), k.value(x.V)
		x.Where.V = k.value(x.Where.V)
		for i, c := range x.Changes {
			x.Changes[i] = sample.Change(c.Do, k.text(c.Path), k.value(c.V))
		}
		for i, p := range x.Show {
			x.Show[i] = k.text(p)
		}
		next, r := plain.Do(s, x)
		ran, q := plain.Run(s, k.text(text))
		docs, _ := plain.Docs(s, "aa")
		shown := func() string {
			return sample.ShowState(next) + sample.ShowReply(r) + sample.ShowState(ran) + sample.ShowReply(q) + sample.Show(list(docs...))
		}
		was := shown()
		for _, b := range k.b {
			clear(b)
		}
		clear(s.Colls)
		clear(x.V.F)
		clear(x.Changes)
		if now := shown(); now != was {
			t.Errorf("%s: %s, then %s", text, was, now)
		}
	}
}

// full is v with empty lists in place of nil.
func full(v api.Val) api.Val {
	l, f := []api.Val{}, []api.Field{}
	for _, x := range v.L {
		l = append(l, full(x))
	}
	for _, x := range v.F {
		f = append(f, field(x.Name, full(x.V)))
	}
	v.L, v.F = l, f
	return v
}

// R4: nil and an empty list are one.
func TestEmptyLists(t *testing.T) {
	r := rand.New(rand.NewSource(401))
	var s api.State
	for range 2000 {
		x := random(r, s)
		in := api.State{Colls: []api.Coll{}}
		for _, c := range s.Colls {
			c.Docs, c.Indexes = full(list(c.Docs...)).L, append([]string{}, c.Indexes...)
			in.Colls = append(in.Colls, c)
		}
		y := x
		y.V, y.Changes, y.Order, y.Show = full(x.V), append([]api.Change{}, x.Changes...), append([]api.Order{}, x.Order...), append([]string{}, x.Show...)
		y.Where.V, y.Where.L = full(x.Where.V), append([]api.Cond{}, x.Where.L...)
		a, _ := answers(s, x)
		b, _ := answers(in, y)
		if a != b {
			t.Fatalf("%s, then %s", a, b)
		}
		s, _ = plain.Do(s, x)
	}
}

// spoilt are states that Do does not tell.
func spoilt() []api.State {
	v := document(number(1))
	l := []api.State{
		{Colls: make([]api.Coll, 3)}, {Colls: make([]api.Coll, 100)}, {Colls: []api.Coll{{Name: "b"}, {Name: "a"}, {Name: "b"}, {Name: "a"}}}, {Colls: []api.Coll{{Name: "a", Indexes: []string{"z", "y", "x", "", "x", "\xff", "id"}}}},
		{Colls: []api.Coll{{Name: "a", Docs: []api.Val{v, v, v}}}}, {Colls: []api.Coll{{Name: "a", Docs: []api.Val{document(text("b")), v, document(number(0)), document(null), {}}}}}, {Colls: []api.Coll{{Name: "a", Docs: make([]api.Val, 3)}}}, {Colls: []api.Coll{{Name: "a", Docs: []api.Val{null, number(1), list(v), document(v), doc()}}}},
	}
	for _, f := range sample.Bad() {
		l = append(l, api.State{Colls: []api.Coll{{Name: "a", Docs: []api.Val{f.V, doc(field("id", f.V)), v}}}})
	}
	return l
}

// anyway sees to it that the calls of s and x end, tell nothing beside an error, and new memory, and tell it again.
func anyway(t *testing.T, s api.State, x api.Stmt) {
	t.Helper()
	does(t, s, x)
	in, by := sample.StateWithRoom(s), sample.StmtWithRoom(x)
	a, got := answers(in, by)
	if b, _ := answers(s, x); a != b {
		t.Fatalf("%s: %s, then %s", sample.ShowStmt(x), cut(a), cut(b))
	}
	if !sample.AllApart(append(got, in, by)...) {
		t.Fatalf("%s: lists share memory", sample.ShowStmt(x))
	}
}

// R1, R2, R5: whatever is handed in.
func TestAnyStates(t *testing.T) {
	r := rand.New(rand.NewSource(402))
	for _, s := range spoilt() {
		for range 20 {
			anyway(t, s, sample.Asked(r, "a", sample.Document(r)))
		}
		for _, verb := range append(sample.Verbs(), "foo") {
			for _, x := range []api.Stmt{{Coll: "a", V: document(number(1)), Path: "x"}, {Coll: "a", V: number(1)}, {}} {
				x.Verb = verb
				anyway(t, s, x)
			}
		}
	}
	great := api.State{Colls: []api.Coll{{Name: "a", Docs: []api.Val{sample.DeepLists(1 << 16), sample.DeepDocs(1 << 16), sample.Nulls(1 << 16), text(letters(1 << 20))}}, {Name: letters(1 << 20)}}}
	for _, l := range []string{"make b", "get a 1", "find a", "delete a where x = 1"} {
		anyway(t, great, stmt(l))
	}
}

// R1: what is very great is refused or taken, as the chapter says.
func TestVeryGreat(t *testing.T) {
	s := some(t)
	great := []api.Val{sample.DeepLists(1 << 16), sample.DeepDocs(1 << 16), sample.Nulls(1 << 16), text(letters(1 << 22))}
	for _, v := range great {
		refuses(t, s, api.Stmt{Verb: "count", Coll: "a", Where: sample.Test("x", "=", v)}, api.ErrForm)
		refuses(t, s, api.Stmt{Verb: "find", Coll: "a", Where: sample.Test("x", "=", v)}, api.ErrArg)
		refuses(t, s, api.Stmt{Verb: "get", Coll: "a", V: v}, api.ErrKey)
		refuses(t, s, api.Stmt{Verb: "insert", Coll: "a", V: document(v)}, api.ErrKey)
		next := takes(t, s, api.Stmt{Verb: "insert", Coll: "a", V: doc(field("id", number(9)), field("x", v))})
		_, q := does(t, next, api.Stmt{Verb: "get", Coll: "a", V: number(9)})
		if len(q.Docs) != 1 || sample.Show(q.Docs[0].F[1].V) != sample.Show(v) {
			t.Errorf("get of %s", sample.Short(v))
		}
	}
	for _, where := range []api.Cond{sample.Or(slices.Repeat([]api.Cond{sample.Exists("x")}, 1<<16)...), sample.Within(1<<16-1, sample.Exists("x"), sample.Not), sample.Exists(strings.Repeat("a.", 1<<20) + "a")} {
		refuses(t, s, api.Stmt{Verb: "count", Coll: "a", Where: where}, api.ErrForm)
		refuses(t, s, api.Stmt{Verb: "delete", Coll: "b", Where: where}, api.ErrForm)
	}
	refuses(t, s, api.Stmt{Verb: letters(1 << 22), Coll: "a"}, api.ErrArg)
	refuses(t, s, api.Stmt{Verb: "drop", Coll: letters(1 << 22)}, api.ErrName)
	_, r := runs(t, s, strings.Repeat("x", 1<<22))
	is(t, "a very long text", told(r), "2")
}
