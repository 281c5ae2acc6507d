package plain_test

import (
	"math/rand"
	"strings"
	"testing"

	"tidemark/api"
	"tidemark/check"
	"tidemark/json"
	"tidemark/parse"
	"tidemark/plain"
	"tidemark/sample"
)

// What the tests are made of, by short names.
var (
	null, number, text, list, doc, field = sample.Null(), sample.Int, sample.Text, sample.List, sample.Doc, sample.Field
	letters, cut, told, toldState        = sample.Letters, sample.Cut, sample.Told, sample.ToldState
)

// val is the value of a text.
func val(s string) api.Val {
	v, _, e := json.Parse(s)
	if e != api.OK {
		panic(s)
	}
	return v
}

// stmt is the statement of a text.
func stmt(s string) api.Stmt {
	x, _, e := parse.Parse(s)
	if e != api.OK {
		panic(s)
	}
	return x
}

// document is a Doc with that id.
func document(id api.Val) api.Val { return doc(field("id", id)) }

// is sees to it that a call's answer is the one that is wanted.
func is(t *testing.T, call, got, want string) {
	t.Helper()
	if got != want {
		t.Errorf("%s: %s, want %s", cut(call), cut(got), cut(want))
	}
}

// does is Do, which must leave the state as it was if there is an error, and tell nothing beside that.
func does(t *testing.T, s api.State, x api.Stmt) (api.State, api.Reply) {
	t.Helper()
	next, r := plain.Do(s, x)
	keeps(t, sample.ShowStmt(x), s, next, r)
	return next, r
}

// runs is Run, which must do so, too.
func runs(t *testing.T, s api.State, text string) (api.State, api.Reply) {
	t.Helper()
	next, r := plain.Run(s, text)
	keeps(t, text, s, next, r)
	return next, r
}

func keeps(t *testing.T, call string, s, next api.State, r api.Reply) {
	t.Helper()
	if r.E == api.OK {
		return
	}
	if sample.ShowState(next) != sample.ShowState(s) {
		t.Errorf("%s: error %d, and the state is %s, no more %s", cut(call), int(r.E), cut(toldState(next)), cut(toldState(s)))
	}
	if r.N != 0 || len(r.Docs) > 0 {
		t.Errorf("%s: %s beside an error", cut(call), cut(told(r)))
	}
}

// after is the state behind statements that all are done, from the empty state on; `; ` stands between their texts.
func after(t *testing.T, l string) api.State {
	t.Helper()
	return on(t, api.State{}, l)
}

// on is the state behind such statements from s on.
func on(t *testing.T, s api.State, l string) api.State {
	t.Helper()
	for _, text := range strings.Split(l, "; ") {
		next, r := runs(t, s, text)
		if r.E != api.OK {
			t.Fatalf("%s: %d", text, int(r.E))
		}
		s = next
	}
	return s
}

// tells sees to it that statements, one behind the other from s on, are answered by these replies, and leave this state; `; ` stands between them.
func tells(t *testing.T, s api.State, l, replies, state string) {
	t.Helper()
	var all []string
	for _, text := range strings.Split(l, "; ") {
		next, r := runs(t, s, text)
		if same, q := does(t, s, read(text)); r.E != api.ErrSyntax && (told(q) != told(r) || sample.ShowState(same) != sample.ShowState(next)) {
			t.Errorf("%s: Run tells %s, Do %s", text, told(r), told(q))
		}
		s, all = next, append(all, told(r))
	}
	is(t, l, strings.Join(all, "; "), replies)
	is(t, "the state behind "+l, toldState(s), state)
}

// read is the statement of a text; none, if there is none.
func read(text string) api.Stmt {
	x, _, _ := parse.Parse(text)
	return x
}

// refuses sees to it that Do tells that error of x.
func refuses(t *testing.T, s api.State, x api.Stmt, want api.Errno) {
	t.Helper()
	_, r := does(t, s, x)
	is(t, sample.ShowStmt(x)+" of "+toldState(s), told(r), told(api.Reply{E: want}))
}

// does it without an error.
func takes(t *testing.T, s api.State, x api.Stmt) api.State {
	t.Helper()
	next, r := does(t, s, x)
	is(t, sample.ShowStmt(x), told(r), "0")
	return next
}

// one is one of l.
func one[T any](r *rand.Rand, l ...T) T { return l[r.Intn(len(l))] }

// colls are the names of collections by chance.
var colls = []string{"a", "a", "a", "b", "b", "A", "c1", "c2", "c3", "c4", "c5", "c6"}

// near is a document of s, or one by chance.
func near(r *rand.Rand, s api.State, coll string) api.Val {
	for _, c := range s.Colls {
		if c.Name == coll && len(c.Docs) > 0 {
			return one(r, c.Docs...)
		}
	}
	return sample.Document(r)
}

// random is a statement by chance that is asked of s; most often one that check lets pass, of a collection that is there.
func random(r *rand.Rand, s api.State) api.Stmt {
	for {
		coll := one(r, colls...)
		x := sample.Asked(r, coll, near(r, s, coll))
		if x.Verb != "make" && len(s.Colls) > 0 && r.Intn(10) > 0 {
			x.Coll = one(r, s.Colls...).Name
		}
		if check.Stmt(x) == api.OK || r.Intn(20) == 0 {
			return x
		}
	}
}

// counted sees to it that each of these was told often enough that a test by chance tries them all.
func counted(t *testing.T, seen map[string]int, least int, these ...string) {
	t.Helper()
	for _, s := range these {
		if seen[s] < least {
			t.Errorf("%q was told %d times: %v", s, seen[s], seen)
		}
	}
}
