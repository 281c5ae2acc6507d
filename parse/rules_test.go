package parse_test

import (
	"math/rand"
	"slices"
	"strings"
	"testing"
	"unsafe"

	"tidemark/api"
	"tidemark/parse"
	"tidemark/sample"
)

// rich is a text in which all kinds of lists and texts stand.
const rich = `find some where name.first = {"aa":["xyz",{"bb":[1,2]}],"cc":"text"} and ( long.name exists or not other in [[],["ab"]] ) order by name.one , name.two desc limit 3 show first.part , second`

// texts are such ones of other verbs.
func texts() []string {
	return []string{
		rich, "make some", "index some name.first", `insert some {"aa":["xyz"],"bb":{"cc":"text"}}`,
		`update some where name exists set first = ["abc"] , unset second.part , push third {"aa":[[]]} , add fourth 5`, `count some where (a exists or b exists) or not (c exists and d exists)`,
	}
}

// R4: each list that is told is new memory, and no two share any.
func TestAnswersAreNew(t *testing.T) {
	r := rand.New(rand.NewSource(6))
	l := texts()
	for range 500 {
		l = append(l, handText(random(r)))
	}
	for _, s := range l {
		a, _, e := parse.Parse(s)
		b, _, f := parse.Parse(s)
		c, _, _ := parse.Cond("x in [[1],[2]] and (y exists or y exists)")
		d, _, _ := parse.Cond("x in [[1],[2]] and (y exists or y exists)")
		if e != api.OK || f != api.OK || show(a) != show(b) {
			t.Errorf("%q: %d, %d", s, int(e), int(f))
		}
		if !sample.StmtsApart(a, b, found(c), found(d)) {
			t.Errorf("%q: two lists share memory", s)
		}
	}
}

// R4: what was told hangs no more on the text it was read of.
func TestStatementsKeepNoText(t *testing.T) {
	for _, s := range texts() {
		want, _, _ := parse.Parse(s)
		b := []byte(s)
		x, _, e := parse.Parse(unsafe.String(&b[0], len(b)))
		clear(b)
		if e != api.OK || show(x) != show(want) {
			t.Errorf("%q: %s", s, show(x))
		}
	}
	const s = `name.first = {"aa":["xyz"]} and long exists`
	want, _, _ := parse.Cond(s)
	b := []byte(s)
	c, _, e := parse.Cond(unsafe.String(&b[0], len(b)))
	clear(b)
	if e != api.OK || showCond(c) != showCond(want) {
		t.Errorf("%q: %s", s, showCond(c))
	}
}

// R4: what is handed in stays as it is, spare room too, whether it is taken or refused; and the text that is told hangs no more on it.
func TestStatementsStay(t *testing.T) {
	r := rand.New(rand.NewSource(7))
	for range 3000 {
		x := random(r)
		if r.Intn(3) == 0 {
			spoil(r, &x)
		}
		in := sample.StmtWithRoom(x)
		was := sample.ShowStmtRoom(in)
		s, e := parse.Print(in)
		if sample.ShowStmtRoom(in) != was {
			t.Fatalf("%s was changed to %s", was, sample.ShowStmtRoom(in))
		}
		if p, f := parse.Print(x); s != p || e != f {
			t.Fatalf("%q, %d, without room %q, %d", s, int(e), p, int(f))
		}
	}
	b := []byte("abcdef")
	in := unsafe.String(&b[0], len(b))
	for _, x := range []api.Stmt{{Verb: "make", Coll: in}, {Verb: "index", Coll: "a", Path: in}, {Verb: "get", Coll: "a", V: text(in)}, found(exists(in)), {Verb: "find", Coll: "a", Show: []string{in}}} {
		copy(b, "abcdef")
		s, e := parse.Print(x)
		was := strings.Clone(s)
		clear(b)
		if e != api.OK || s != was || !strings.Contains(s, "abcdef") {
			t.Errorf("%q was changed to %q", was, s)
		}
	}
}

// R1, R2, R5: whatever text: each call ends, tells nothing beside an error, and tells it again.
func TestAnyText(t *testing.T) {
	r := rand.New(rand.NewSource(8))
	some := slices.Concat(words, signs, []string{"a", "b", "0", "-1", `"a"`, "?", letters(25)})
	for range 50000 {
		s := sample.AnyText(r, "findmake awhere x=1<[]{}(),.:\"\" or not 0", 50, 60)
		if r.Intn(2) == 0 {
			var l []string
			for range r.Intn(12) {
				l = append(l, one(r, some...))
			}
			s = one(r, "", "find a where ", "update a ", "insert a ", "index a ") + strings.Join(l, " ")
		}
		x, at, e := parse.Parse(s)
		c, bt, f := parse.Cond(s)
		parse.Parse(rich)
		y, again, g := parse.Parse(s)
		d, anew, h := parse.Cond(s)
		if show(x) != show(y) || at != again || e != g || showCond(c) != showCond(d) || bt != anew || f != h {
			t.Fatalf("%q: told otherwise again", s)
		}
		if e == api.OK && at != 0 || f == api.OK && bt != 0 || at < 0 || at > len(s) || bt < 0 || bt > len(s) {
			t.Fatalf("%q: %d, %d; %d, %d", s, at, int(e), bt, int(f))
		}
		if byAnotherHand(t, s); t.Failed() {
			return
		}
	}
}

// R1, R2: statements of all kinds of parts, good and bad ones.
func TestAnyStatement(t *testing.T) {
	r := rand.New(rand.NewSource(9))
	for range 5000 {
		var x api.Stmt
		for range r.Intn(12) {
			spoil(r, &x)
		}
		s, e := parse.Print(x)
		if p, f := parse.Print(x); s != p || e != f || e != api.OK && s != "" || (e == api.OK) != told(x) {
			t.Fatalf("%s: %q, %d, then %q, %d", cut(show(x)), s, int(e), p, int(f))
		}
	}
}
