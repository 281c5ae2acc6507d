package path_test

import (
	"math/rand"
	"slices"
	"strings"
	"testing"

	"tidemark/api"
	"tidemark/path"
	"tidemark/sample"
)

// ways are paths within and beside the values of sample.Nested.
func ways() []string {
	return []string{"aa", "bb", "aa.0", "aa.1", "aa.1.bb", "aa.0.0", "aa.1.bb.2", "aa.1.zz", "bb.aa", "bb.aa.0", "0", "1", "2", "2.1", "3", "zz", "zz.y.x", "a", "", "a.", "aa.9", "bb.0"}
}

// R4: what is handed in stays as it is, spare room too, whether it is taken or refused.
func TestListsStay(t *testing.T) {
	values := sample.Nested()
	for _, f := range sample.Bad() {
		values = append(values, f.V)
	}
	for _, v := range values {
		for _, x := range values {
			in, more := sample.WithRoom(v), sample.WithRoom(x)
			was := sample.ShowRoom(in) + sample.ShowRoom(more)
			for _, p := range ways() {
				all(in, p, more, 1)
			}
			if sample.ShowRoom(in)+sample.ShowRoom(more) != was {
				t.Errorf("%s or %s was changed", short(v), short(x))
			}
		}
	}
}

// answers are what the calls answer.
func answers(v api.Val, p string, x api.Val) []api.Val {
	a, _ := path.Get(v, p)
	b, _ := path.Set(v, p, x)
	c, _ := path.Unset(v, p)
	d, _ := path.Push(v, p, x)
	e, _ := path.Add(v, p, 1)
	return []api.Val{a, b, c, d, e}
}

// R4: what is answered is new memory, and no two of its lists share any.
func TestAnswersAreNew(t *testing.T) {
	for _, v := range append(sample.Nested(), list(number(1), number(2)), of(t, example)) {
		for _, x := range sample.Nested() {
			for _, p := range append(ways(), "a.0", "a.1.b", "d") {
				in, more := sample.WithRoom(v), sample.WithRoom(x)
				l := append([]api.Val{in, more}, answers(in, p, more)...)
				if !sample.Apart(append(l, answers(in, p, more)...)) {
					t.Fatalf("%s, %s, %s: answers share memory", short(v), p, short(x))
				}
			}
		}
	}
	p := "a.b.c"
	a, _ := path.Steps(p)
	b, _ := path.Steps(p)
	clear(a[:cap(a)])
	if c, _ := path.Steps(p); !slices.Equal(b, []string{"a", "b", "c"}) || !slices.Equal(c, b) {
		t.Errorf("Steps: %q, %q", b, c)
	}
}

// emptied makes all lists of v empty of what they hold.
func emptied(v api.Val) {
	for _, x := range v.L {
		emptied(x)
	}
	for _, f := range v.F {
		emptied(f.V)
	}
	clear(v.L)
	clear(v.F)
}

// R4: an answer hangs no more on what was handed in.
func TestNothingIsKept(t *testing.T) {
	for _, v := range sample.Nested() {
		for _, p := range ways() {
			x := sample.Nested()[0]
			in, more := sample.WithRoom(v), sample.WithRoom(x)
			l := list(answers(in, p, more)...)
			was := show(l)
			emptied(in)
			emptied(more)
			if show(l) != was {
				t.Errorf("%s, %s: an answer was changed", short(v), p)
			}
		}
	}
}

// R4: nil and an empty list are one.
func TestEmptyLists(t *testing.T) {
	empty := func(v api.Val) api.Val {
		v.L, v.F = []api.Val{}, []api.Field{}
		return v
	}
	for _, v := range []api.Val{null, number(7), text("a"), list(), doc()} {
		for _, p := range []string{"a", "0", "b.0", "a.c.d", "b"} {
			in := doc(field("a", v), field("b", list(v)))
			same := doc(field("a", empty(v)), field("b", list(empty(v))))
			if a, b := all(in, p, v, 1), all(same, p, empty(v), 1); a != b {
				t.Errorf("%s, %s: %s, then %s", short(in), p, a, b)
			}
		}
	}
}

// R1: texts and values that are great.
func TestVeryGreat(t *testing.T) {
	for _, p := range []string{letters(1 << 22), strings.Repeat("a.", 1<<22) + "a", strings.Repeat(".", 1<<22), strings.Repeat("9", 1<<22), strings.Repeat("\xff", 1<<20), strings.Repeat("\u00e4.", 1<<20)} {
		isNone(t, p)
		sets(t, example, p, "1", api.ErrSyntax)
		unsets(t, example, p, api.ErrSyntax)
	}
	great := []sample.Fault{
		{V: sample.DeepLists(1 << 16), E: api.ErrDeep},
		{V: sample.DeepDocs(1 << 16), E: api.ErrDeep},
		{V: text(letters(1 << 20)), E: api.ErrBig},
		{V: sample.Nulls(1 << 16), E: api.ErrLimit},
	}
	for _, g := range great {
		tells(t, "Set of "+short(g.V), told(path.Set(g.V, "a", null)), g.E)
		tells(t, "Set "+short(g.V), told(path.Set(doc(), "a", g.V)), g.E)
		tells(t, "Push "+short(g.V), told(path.Push(doc(), "a", g.V)), g.E)
		tells(t, "Unset of "+short(g.V), told(path.Unset(g.V, "0.0.0")), g.E)
		tells(t, "Add to "+short(g.V), told(path.Add(g.V, "a.a", 1)), g.E)
		if x, ok := path.Get(g.V, "0"); ok || show(x) != show(api.Val{}) {
			t.Errorf("Get of %s: %s", short(g.V), short(x))
		}
	}
}

// R1, R2, R5: whatever is handed in: each call ends, tells nothing beside an error, and tells it again.
func TestAnything(t *testing.T) {
	r := rand.New(rand.NewSource(3))
	bad := sample.Bad()
	some := func() api.Val {
		if r.Intn(6) == 0 {
			return bad[r.Intn(len(bad))].V
		}
		return full(r, 4)
	}
	for range 10000 {
		v, x, n := some(), some(), int64(r.Uint64())
		p := way(r, v)
		if r.Intn(5) == 0 {
			p = string(sample.Changed(r, []byte(p), []byte("a0._9.\xff"), []byte(".10.bb")))
		}
		a, b := all(v, p, x, n), all(v, p, x, n)
		if a != b || strings.Contains(a, "beside") || strings.Contains(a, "(bad)") {
			t.Fatalf("%s, %q, %s, %d: %s, then %s", short(v), p, short(x), n, a, b)
		}
	}
}
