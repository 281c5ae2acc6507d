package parse_test

import (
	"cmp"
	"math/rand"
	"slices"
	"strings"
	"testing"
	"unsafe"

	"tidemark/api"
	"tidemark/parse"
	"tidemark/sample"
)

// rich is a text in which all kinds of lists and texts stand.
const rich = `find some where name.first = {"aa":["xyz",{"bb":[1,2]}],"cc":"text"} and ( long.name exists or not other in [[],["ab"]] ) order by name.one , name.two desc limit 3 show first.part , second`

// texts are such ones of other verbs.
func texts() []string {
	return []string{
		rich, "make some", "index some name.first", `insert some {"aa":["xyz"],"bb":{"cc":"text"}}`,
		`update some where name exists set first = ["abc"] , unset second.part , push third {"aa":[[]]} , add fourth 5`, `count some where (a exists or b exists) or not (c exists and d exists)`,
	}
}

// span is the memory of a list, spare room too.
type span struct{ from, to uintptr }

// spans are those of all lists of statements.
func spans(l ...api.Stmt) []span {
	var all []span
	for _, x := range l {
		all = append(all, spanOf(x.Order), spanOf(x.Show), spanOf(x.Changes))
		all = append(append(all, spansOfValue(x.V)...), spansOfCond(x.Where)...)
		for _, c := range x.Changes {
			all = append(all, spansOfValue(c.V)...)
		}
	}
	return slices.DeleteFunc(all, func(s span) bool { return s.from == s.to })
}

func spanOf[T any](l []T) span {
	var none T
	from := uintptr(unsafe.Pointer(unsafe.SliceData(l)))
	return span{from, from + uintptr(cap(l))*unsafe.Sizeof(none)}
}

func spansOfCond(c api.Cond) []span {
	all := append(spansOfValue(c.V), spanOf(c.L))
	for _, x := range c.L {
		all = append(all, spansOfCond(x)...)
	}
	return all
}

func spansOfValue(v api.Val) []span {
	all := []span{spanOf(v.L), spanOf(v.F)}
	for _, x := range v.L {
		all = append(all, spansOfValue(x)...)
	}
	for _, f := range v.F {
		all = append(all, spansOfValue(f.V)...)
	}
	return all
}

// R4: each list that is told is new memory, and no two share any.
func TestAnswersAreNew(t *testing.T) {
	r := rand.New(rand.NewSource(6))
	l := texts()
	for range 500 {
		l = append(l, handText(random(r)))
	}
	seen := 0
	for _, s := range l {
		a, _, e := parse.Parse(s)
		b, _, f := parse.Parse(s)
		c, _, _ := parse.Cond("x in [[1],[2]] and (y exists or y exists)")
		all := spans(a, b, found(c))
		slices.SortFunc(all, func(a, b span) int { return cmp.Compare(a.from, b.from) })
		for i := range all[1:] {
			if all[i].to > all[i+1].from {
				t.Errorf("%q: two lists share memory", s)
			}
		}
		if e != api.OK || f != api.OK || show(a, false) != show(b, false) {
			t.Errorf("%q: %d, %d", s, int(e), int(f))
		}
		seen += len(all)
	}
	if seen < 3000 {
		t.Errorf("%d lists", seen)
	}
}

// R4: what was told hangs no more on the text it was read of.
func TestStatementsKeepNoText(t *testing.T) {
	for _, s := range texts() {
		want, _, _ := parse.Parse(s)
		b := []byte(s)
		x, _, e := parse.Parse(unsafe.String(&b[0], len(b)))
		clear(b)
		if e != api.OK || show(x, false) != show(want, false) {
			t.Errorf("%q: %s", s, show(x, false))
		}
	}
	const s = `name.first = {"aa":["xyz"]} and long exists`
	want, _, _ := parse.Cond(s)
	b := []byte(s)
	c, _, e := parse.Cond(unsafe.String(&b[0], len(b)))
	clear(b)
	if e != api.OK || showCond(c, false) != showCond(want, false) {
		t.Errorf("%q: %s", s, showCond(c, false))
	}
}

// roomy is l in new memory, each item changed so, with spare room that is filled with marks.
func roomy[T any](l []T, mark T, each func(T) T) []T {
	m := make([]T, 0, len(l)+3)
	for _, x := range l {
		m = append(m, each(x))
	}
	copy(m[len(m):cap(m)], []T{mark, mark, mark})
	return m
}

// withRoom is x in new memory, with marks in the spare room of all its lists.
func withRoom(x api.Stmt) api.Stmt {
	x.V = sample.WithRoom(x.V)
	x.Where = condWithRoom(x.Where)
	x.Order = roomy(x.Order, api.Order{Path: "mark"}, func(o api.Order) api.Order { return o })
	x.Show = roomy(x.Show, "mark", strings.Clone)
	x.Changes = roomy(x.Changes, api.Change{Do: "mark"}, func(c api.Change) api.Change {
		c.V = sample.WithRoom(c.V)
		return c
	})
	return x
}

func condWithRoom(c api.Cond) api.Cond {
	c.V = sample.WithRoom(c.V)
	c.L = roomy(c.L, api.Cond{Op: "mark"}, condWithRoom)
	return c
}

// R4: what is handed in stays as it is, spare room too, whether it is taken or refused; and the text that is told hangs no more on it.
func TestStatementsStay(t *testing.T) {
	r := rand.New(rand.NewSource(7))
	for range 3000 {
		x := random(r)
		if r.Intn(3) == 0 {
			spoil(r, &x)
		}
		in := withRoom(x)
		was := show(in, true)
		s, e := parse.Print(in)
		if show(in, true) != was {
			t.Fatalf("%s was changed to %s", was, show(in, true))
		}
		if p, f := parse.Print(x); s != p || e != f {
			t.Fatalf("%q, %d, without room %q, %d", s, int(e), p, int(f))
		}
	}
	b := []byte("abcdef")
	in := unsafe.String(&b[0], len(b))
	for _, x := range []api.Stmt{{Verb: "make", Coll: in}, {Verb: "index", Coll: "a", Path: in}, {Verb: "get", Coll: "a", V: text(in)}, found(exists(in)), {Verb: "find", Coll: "a", Show: []string{in}}} {
		copy(b, "abcdef")
		s, e := parse.Print(x)
		was := strings.Clone(s)
		clear(b)
		if e != api.OK || s != was || !strings.Contains(s, "abcdef") {
			t.Errorf("%q was changed to %q", was, s)
		}
	}
}

// R1, R2, R5: whatever text: each call ends, tells nothing beside an error, and tells it again.
func TestAnyText(t *testing.T) {
	r := rand.New(rand.NewSource(8))
	some := slices.Concat(words, signs, []string{"a", "b", "0", "-1", `"a"`, "?", letters(25)})
	for range 50000 {
		s := sample.AnyText(r, "findmake awhere x=1<[]{}(),.:\"\" or not 0", 50, 60)
		if r.Intn(2) == 0 {
			var l []string
			for range r.Intn(12) {
				l = append(l, one(r, some...))
			}
			s = one(r, "", "find a where ", "update a ", "insert a ", "index a ") + strings.Join(l, " ")
		}
		x, at, e := parse.Parse(s)
		c, bt, f := parse.Cond(s)
		parse.Parse(rich)
		y, again, g := parse.Parse(s)
		d, anew, h := parse.Cond(s)
		if show(x, false) != show(y, false) || at != again || e != g || showCond(c, false) != showCond(d, false) || bt != anew || f != h {
			t.Fatalf("%q: told otherwise again", s)
		}
		if e == api.OK && at != 0 || f == api.OK && bt != 0 || at < 0 || at > len(s) || bt < 0 || bt > len(s) {
			t.Fatalf("%q: %d, %d; %d, %d", s, at, int(e), bt, int(f))
		}
		if byAnotherHand(t, s); t.Failed() {
			return
		}
	}
}

// R1, R2: statements of all kinds of parts, good and bad ones.
func TestAnyStatement(t *testing.T) {
	r := rand.New(rand.NewSource(9))
	for range 5000 {
		var x api.Stmt
		for range r.Intn(12) {
			spoil(r, &x)
		}
		s, e := parse.Print(x)
		if p, f := parse.Print(x); s != p || e != f || e != api.OK && s != "" || (e == api.OK) != told(x) {
			t.Fatalf("%s: %q, %d, then %q, %d", cut(show(x, false)), s, int(e), p, int(f))
		}
	}
}
