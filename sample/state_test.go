package sample_test

import (
	"maps"
	"math/rand"
	"slices"
	"testing"

	"tidemark/api"
	"tidemark/check"
	"tidemark/sample"
)

// states are states of which each differs from the others in one part at least.
func states() []api.State {
	colls := []api.Coll{{}, {Name: "a"}, {Name: "b"}, {Docs: []api.Val{{}}}, {Docs: []api.Val{sample.Null()}}, {Docs: []api.Val{sample.Null(), sample.Null()}}, {Docs: []api.Val{sample.List(sample.Null())}}, {Indexes: []string{""}}, {Indexes: []string{"a"}}, {Indexes: []string{"a", "b"}}, {Indexes: []string{"a b"}}}
	l := []api.State{{}}
	for _, c := range colls {
		l = append(l, api.State{Colls: []api.Coll{c}}, api.State{Colls: []api.Coll{{Name: "z"}, c}})
	}
	return l
}

// replies are replies of which each differs from the others.
func replies() []api.Reply {
	return []api.Reply{{}, {E: 1}, {N: 1}, {Docs: []api.Val{{}}}, {Docs: []api.Val{sample.Null()}}, {Docs: []api.Val{sample.Null(), sample.Null()}}, {Docs: []api.Val{sample.Nulls(2)}}}
}

// ShowState, ShowStateRoom and ShowReply tell states and replies apart; of nil and an empty list they tell the same.
func TestShowState(t *testing.T) {
	l := states()
	for i, a := range l {
		for k, b := range l {
			if (sample.ShowState(a) == sample.ShowState(b)) != (i == k) || (sample.ShowStateRoom(a) == sample.ShowStateRoom(b)) != (i == k) {
				t.Errorf("%s and %s", sample.ShowState(a), sample.ShowState(b))
			}
		}
		r := sample.StateWithRoom(a)
		if sample.ShowState(r) != sample.ShowState(a) || sample.ShowStateRoom(r) == sample.ShowStateRoom(a) {
			t.Errorf("%s with room: %s", sample.ShowState(a), sample.ShowStateRoom(r))
		}
	}
	for i, a := range replies() {
		for k, b := range replies() {
			if (sample.ShowReply(a) == sample.ShowReply(b)) != (i == k) {
				t.Errorf("%s and %s", sample.ShowReply(a), sample.ShowReply(b))
			}
		}
	}
	if sample.ShowState(api.State{Colls: []api.Coll{}}) != sample.ShowState(api.State{}) || sample.ShowReply(api.Reply{Docs: []api.Val{}}) != sample.ShowReply(api.Reply{}) {
		t.Error("nil and an empty list are not one")
	}
}

// Told and ToldState are what a script tells, and indexes.
func TestTold(t *testing.T) {
	v := sample.Doc(sample.Field("id", sample.Int(-1)))
	for want, r := range map[string]api.Reply{"0": {}, "17": {E: api.ErrEnd}, "0 n 2": {N: 2}, `0 {"id":-1}`: {Docs: []api.Val{v}}, `0 n 2 {"id":-1} null`: {N: 2, Docs: []api.Val{v, sample.Null()}}, "0 " + sample.Show(api.Val{}): {Docs: []api.Val{{}}}} {
		if got := sample.Told(r); got != want {
			t.Errorf("%s, want %s", got, want)
		}
	}
	for want, s := range map[string]api.State{"": {}, "a": {Colls: []api.Coll{{Name: "a"}}}, `a (x, y) {"id":-1} null; b`: {Colls: []api.Coll{{Name: "a", Docs: []api.Val{v, sample.Null()}, Indexes: []string{"x", "y"}}, {Name: "b"}}}} {
		if got := sample.ToldState(s); got != want {
			t.Errorf("%s, want %s", got, want)
		}
	}
}

// AllApart knows what shares memory in any of its lists from what does not.
func TestAllApart(t *testing.T) {
	v := func() api.Val { return sample.WithRoom(sample.Nested()[0]) }
	s := func() api.State {
		return sample.StateWithRoom(api.State{Colls: []api.Coll{{Name: "a", Docs: []api.Val{v()}, Indexes: []string{"x"}}}})
	}
	if !sample.AllApart(s(), s(), api.Reply{Docs: []api.Val{v()}}, v(), []api.Val{v()}, api.Stmt{V: v()}, []byte{1}) {
		t.Error("what lies apart is told to share memory")
	}
	a, b := s(), v()
	coll := a.Colls[0]
	for i, l := range [][]any{
		{a, a}, {a, api.State{Colls: a.Colls[:0]}}, {a, coll.Docs[0]}, {a, coll.Docs}, {a, api.Reply{Docs: coll.Docs[:0]}}, {a, api.State{Colls: []api.Coll{{Indexes: coll.Indexes}}}}, {a, api.Stmt{Show: coll.Indexes[:0]}}, {b, api.Reply{Docs: []api.Val{b}}}, {b, []api.Val{b}}, {b, b}, {5},
	} {
		if sample.AllApart(l...) {
			t.Errorf("%d: what shares memory is told to lie apart", i)
		}
	}
}

// Statements that are asked by chance are of each verb, most of them let pass; documents have one of the few ids.
func TestAsked(t *testing.T) {
	r := rand.New(rand.NewSource(5))
	ids := map[string]int{}
	for _, id := range sample.Ids() {
		ids[sample.Show(id)] = 0
	}
	seen, passed := map[string]int{}, 0
	for range 5000 {
		v := sample.Document(r)
		was := sample.Show(v)
		x := sample.Asked(r, "c", v)
		if seen[x.Verb]++; x.Coll != "c" || sample.Show(v) != was {
			t.Errorf("%s of %s", sample.ShowStmt(x), was)
		}
		if check.Stmt(x) == api.OK {
			passed++
		}
		if x.Verb == "insert" || x.Verb == "replace" {
			id, e := check.Id(x.V)
			if ids[sample.Show(id)]++; e != api.OK {
				t.Errorf("%s: %d", sample.ShowStmt(x), int(e))
			}
		}
	}
	if !slices.Equal(slices.Sorted(maps.Keys(seen)), slices.Sorted(slices.Values(sample.Verbs()))) || seen["insert"] < 2*seen["delete"] || passed < 3000 {
		t.Errorf("%v, %d let pass", seen, passed)
	}
	if len(ids) != len(sample.Ids()) {
		t.Errorf("%v", ids)
	}
	for id, n := range ids {
		if n < 20 {
			t.Errorf("the id %s stands in %d", id, n)
		}
	}
}
