package plain_test

import (
	"fmt"
	"maps"
	"math/rand"
	"slices"
	"strings"
	"testing"

	"tidemark/api"
	"tidemark/check"
	"tidemark/eval"
	"tidemark/key"
	"tidemark/plain"
	"tidemark/sample"
	"tidemark/value"
)

// other is a state by another hand: collections by names.
type other map[string]otherColl

// otherColl has documents by the keys of their ids, which have the ids' order, and indexes.
type otherColl struct {
	docs    map[string]api.Val
	indexes map[string]bool
}

// state is that state as plain has it.
func (o other) state() api.State {
	var s api.State
	for _, name := range slices.Sorted(maps.Keys(o)) {
		s.Colls = append(s.Colls, api.Coll{Name: name, Docs: o[name].all(), Indexes: slices.Sorted(maps.Keys(o[name].indexes))})
	}
	return s
}

func (c otherColl) all() []api.Val {
	var l []api.Val
	for _, k := range slices.Sorted(maps.Keys(c.docs)) {
		l = append(l, c.docs[k])
	}
	return l
}

// held are the documents of which the condition holds.
func (c otherColl) held(where api.Cond) []api.Val {
	return slices.DeleteFunc(c.all(), func(v api.Val) bool {
		holds, e := eval.Holds(where, v)
		return e != api.OK || !holds
	})
}

// keyOf is the key of the document's id.
func keyOf(v api.Val) string {
	id, _ := value.Find(v, "id")
	return keyOfId(id)
}

func keyOfId(id api.Val) string {
	k, e := key.Of(id)
	if e != api.OK {
		panic(sample.Show(id))
	}
	return string(k)
}

// do does what Do does, by another hand: of statements that a text tells.
func (o other) do(x api.Stmt) api.Reply {
	if e := check.Stmt(x); e != api.OK {
		return api.Reply{E: e}
	}
	c, there := o[x.Coll]
	if x.Verb == "make" {
		if there {
			return api.Reply{E: api.ErrThere}
		}
		if len(o) == 8 {
			return api.Reply{E: api.ErrLimit}
		}
		o[x.Coll] = otherColl{map[string]api.Val{}, map[string]bool{}}
		return api.Reply{}
	}
	if !there {
		return api.Reply{E: api.ErrName}
	}
	if x.Verb == "drop" {
		delete(o, x.Coll)
		return api.Reply{}
	}
	return c.do(x)
}

func (c otherColl) do(x api.Stmt) api.Reply {
	held := c.held(x.Where)
	switch x.Verb {
	case "index", "unindex":
		if c.indexes[x.Path] != (x.Verb == "unindex") {
			return api.Reply{E: map[string]api.Errno{"index": api.ErrThere, "unindex": api.ErrName}[x.Verb]}
		}
		if x.Verb == "index" && len(c.indexes) == 4 {
			return api.Reply{E: api.ErrLimit}
		}
		if c.indexes[x.Path] = true; x.Verb == "unindex" {
			delete(c.indexes, x.Path)
		}
	case "insert", "replace":
		_, there := c.docs[keyOf(x.V)]
		if there != (x.Verb == "replace") {
			return api.Reply{E: map[string]api.Errno{"insert": api.ErrThere, "replace": api.ErrEnd}[x.Verb]}
		}
		c.docs[keyOf(x.V)] = x.V
	case "get":
		v, there := c.docs[keyOfId(x.V)]
		if !there {
			return api.Reply{E: api.ErrEnd}
		}
		return api.Reply{Docs: []api.Val{v}}
	case "find":
		docs, e := eval.Find(c.all(), x)
		return api.Reply{E: e, N: len(docs), Docs: docs}
	case "update":
		var all []api.Val
		for _, v := range held {
			w, e := eval.Apply(v, x.Changes)
			if e != api.OK {
				return api.Reply{E: e}
			}
			all = append(all, w)
		}
		for _, v := range all {
			c.docs[keyOf(v)] = v
		}
		return api.Reply{N: len(held)}
	case "delete":
		for _, v := range held {
			delete(c.docs, keyOf(v))
		}
		return api.Reply{N: len(held)}
	case "count":
		return api.Reply{N: len(held)}
	}
	return api.Reply{}
}

// P19.1: statements by chance, one behind the other, held against another hand.
func TestDoByChance(t *testing.T) {
	seen := map[string]int{}
	for seed := range int64(40) {
		r := rand.New(rand.NewSource(seed))
		var s api.State
		o := other{}
		for range 400 {
			x := random(r, s)
			next, got := does(t, s, x)
			want := o.do(x)
			if is(t, sample.ShowStmt(x)+" of "+toldState(s), told(got), told(want)); sample.ShowState(next) != sample.ShowState(o.state()) {
				t.Errorf("%s of %s: %s, want %s", sample.ShowStmt(x), toldState(s), toldState(next), toldState(o.state()))
			}
			if t.Failed() {
				return
			}
			s = next
			if check.Stmt(x) == api.OK {
				seen[fmt.Sprint(x.Verb, " ", int(got.E))]++
				seen[fmt.Sprint(x.Verb, " ", got.N > 0)]++
			}
		}
	}
	counted(t, seen, 10, "make 0", "make 9", "make 15", "drop 0", "drop 8", "index 0", "index 9", "index 15", "index 8", "unindex 0", "unindex 8", "insert 0", "insert 9", "insert 8", "replace 0", "replace 17", "replace 8", "get 0", "get 17", "get 8", "find 0", "find true", "find 8", "count 0", "count true", "count false", "count 8", "delete 0", "delete true", "delete false", "delete 8", "update 0", "update true", "update 7", "update 8")
}

// rises tells whether the documents of s rise by ids, and its names and paths rise, each once.
func rises(s api.State) bool {
	for i, c := range s.Colls {
		if i > 0 && s.Colls[i-1].Name >= c.Name || !slices.IsSorted(c.Indexes) || len(slices.Compact(slices.Clone(c.Indexes))) != len(c.Indexes) {
			return false
		}
		for i := range c.Docs {
			if i > 0 && keyOf(c.Docs[i-1]) >= keyOf(c.Docs[i]) {
				return false
			}
		}
	}
	return true
}

// P19.3: whatever statements are done, documents rise by ids, each once; names and paths rise, too, and there are no more than there may be.
func TestAllRises(t *testing.T) {
	r := rand.New(rand.NewSource(100))
	var s api.State
	full, docs := 0, map[int]int{}
	for range 20000 {
		x := random(r, s)
		s, _ = plain.Do(s, x)
		if !rises(s) || len(s.Colls) > 8 {
			t.Fatalf("behind %s: %s", sample.ShowStmt(x), toldState(s))
		}
		for _, c := range s.Colls {
			docs[len(c.Docs)]++
			if len(c.Indexes) > 4 {
				t.Fatalf("behind %s: %s", sample.ShowStmt(x), toldState(s))
			}
		}
		if len(s.Colls) == 8 {
			full++
		}
	}
	if full < 100 || len(docs) < 8 {
		t.Errorf("%d times 8 collections; documents: %v", full, docs)
	}
}

// asksIndex tells whether x is index or unindex.
func asksIndex(x api.Stmt) bool { return strings.HasSuffix(x.Verb, "index") }

// withoutIndexes is s without its paths of indexes.
func withoutIndexes(s api.State) api.State {
	s.Colls = slices.Clone(s.Colls)
	for i := range s.Colls {
		s.Colls[i].Indexes = nil
	}
	return s
}

// P19.3: indexes change no reply of another statement, and nothing else of the state.
func TestIndexesChangeNoReply(t *testing.T) {
	seen := map[string]int{}
	for seed := range int64(30) {
		r := rand.New(rand.NewSource(200 + seed))
		var with, without api.State
		for range 400 {
			x := random(r, with)
			var q, p api.Reply
			if with, q = plain.Do(with, x); asksIndex(x) {
				seen[fmt.Sprint(x.Verb, " ", int(q.E))]++
				continue
			}
			without, p = plain.Do(without, x)
			if told(q) != told(p) || sample.ShowState(withoutIndexes(with)) != sample.ShowState(without) {
				t.Fatalf("%s: %s with indexes, %s without", sample.ShowStmt(x), told(q), told(p))
			}
			for _, c := range with.Colls {
				seen[fmt.Sprint("indexes ", len(c.Indexes))]++
			}
			seen[x.Verb]++
		}
	}
	counted(t, seen, 20, "index 0", "unindex 0", "index 9", "indexes 1", "indexes 2", "indexes 3", "indexes 4", "find", "count", "update", "delete", "insert", "replace", "get")
}

// P19.3: what was inserted is got, till it is replaced, changed or gone; what was not is not.
func TestWhatWasInsertedIsGot(t *testing.T) {
	r := rand.New(rand.NewSource(300))
	seen := map[string]int{}
	for range 300 {
		s := after(t, "make a; make b; index b x")
		in := map[string]api.Val{}
		for range r.Intn(20) {
			v := sample.Document(r)
			_, had := in[keyOf(v)]
			next, q := does(t, s, api.Stmt{Verb: "insert", Coll: "a", V: v})
			s = next
			if had != (q.E == api.ErrThere) || had != (q.E != api.OK) {
				t.Fatalf("insert of %s: %s, there before: %v", sample.Short(v), told(q), had)
			}
			if !had {
				in[keyOf(v)] = v
			}
			seen[fmt.Sprint("insert ", int(q.E))]++
		}
		for _, id := range sample.Ids() {
			v, there := in[keyOfId(id)]
			want := api.Reply{E: api.ErrEnd}
			if there {
				want = api.Reply{Docs: []api.Val{v}}
			}
			_, q := does(t, s, api.Stmt{Verb: "get", Coll: "a", V: id})
			is(t, "get of "+sample.Show(id), told(q), told(want))
			seen[fmt.Sprint("get ", int(q.E))]++
			refuses(t, s, api.Stmt{Verb: "get", Coll: "b", V: id}, api.ErrEnd)
		}
		_, q := does(t, s, stmt("count a"))
		is(t, "count a", told(q), told(api.Reply{N: len(in)}))
	}
	counted(t, seen, 200, "insert 0", "insert 9", "get 0", "get 17")
}
