package value_test

import (
	"math/rand"
	"slices"
	"strings"
	"testing"

	"tidemark/api"
	"tidemark/value"
)

func finds(t *testing.T, v api.Val, name string, want api.Val) {
	t.Helper()
	if x, ok := value.Find(v, name); !ok || show(x) != show(want) {
		t.Errorf("Find of %q in %s: %s, %t, want %s", name, short(v), short(x), ok, short(want))
	}
}

func findsNone(t *testing.T, v api.Val, name string) {
	t.Helper()
	if x, ok := value.Find(v, name); ok || show(x) != show(api.Val{}) {
		t.Errorf("Find of %q in %s: %s, %t, want none", name, short(v), short(x), ok)
	}
}

// P2.3: names that are there, names that are not.
func TestFind(t *testing.T) {
	v := doc(field("a", number(1)), field("aa", list(null, doc(field("x", text("y"))))), field("b", null), field("\u00e4", doc()))
	for _, f := range v.F {
		finds(t, v, f.Name, f.V)
	}
	for _, name := range []string{"", "A", "x", "ab", "aaa", "c", "\xff", "\xc3", "a\x00", strings.Repeat("n", 5000)} {
		findsNone(t, v, name)
	}
	for i, f := range fields(32).F {
		d := fields(32)
		d.F[i].V = number(int64(i))
		finds(t, d, f.Name, number(int64(i)))
	}
	findsNone(t, doc(), "a")
	findsNone(t, doc(), "")
}

// P2.3: values that are no Doc have no fields.
func TestFindInOthers(t *testing.T) {
	f := []api.Field{field("a", null), field("", null)}
	for _, v := range []api.Val{{}, null, boolean(1), number(1), text("a"), list(), list(doc(f...)), {Kind: api.List, F: f}, {Kind: api.Text, F: f}, {Kind: 0, F: f}, {Kind: 7, F: f}, {Kind: -6, F: f}} {
		findsNone(t, v, "a")
		findsNone(t, v, "")
	}
	findsNone(t, doc(field("b", doc(field("a", null)))), "a")
}

// P2.3: Docs that are not good are looked through as they are; what is found in them is told as it is.
func TestFindInBadDocs(t *testing.T) {
	odd := api.Val{Kind: 9, N: -5, S: "\xff", L: []api.Val{{Kind: 8}}, F: []api.Field{field("", text("q"))}}
	v := api.Val{Kind: api.Doc, N: 3, S: "s", F: []api.Field{field("c", odd), field("a", number(1)), field("", number(2)), field("b", deepLists(12)), field("\xff", nulls(40)), field("a", number(3))}}
	finds(t, v, "c", odd)
	finds(t, v, "a", number(1))
	finds(t, v, "", number(2))
	finds(t, v, "b", deepLists(12))
	finds(t, v, "\xff", nulls(40))
	findsNone(t, v, "d")
}

func makes(t *testing.T, l []api.Field, want api.Val) {
	t.Helper()
	if v, e := value.Make(l); e != api.OK || show(v) != show(want) {
		t.Errorf("Make of %s: %s, %d, want %s", short(doc(l...)), short(v), int(e), short(want))
	}
}

func makesNone(t *testing.T, want api.Errno, l ...api.Field) {
	t.Helper()
	if v, e := value.Make(l); e != want || show(v) != show(api.Val{}) {
		t.Errorf("Make of %s: %s, %d, want error %d", short(doc(l...)), short(v), int(e), int(want))
	}
}

// P2.3: fields in order and out of it.
func TestMake(t *testing.T) {
	a, b, c := field("a", number(1)), field("aa", list(doc(field("z", null)))), field("b", text("x"))
	want := doc(a, b, c)
	for _, l := range [][]api.Field{{a, b, c}, {a, c, b}, {b, a, c}, {b, c, a}, {c, a, b}, {c, b, a}} {
		makes(t, l, want)
	}
	makes(t, nil, doc())
	makes(t, []api.Field{}, doc())
	makes(t, []api.Field{c}, doc(c))
	makes(t, []api.Field{field("\u00e4", null), field("z", null), field("Z", null)}, doc(field("Z", null), field("z", null), field("\u00e4", null)))
	l := fields(32).F
	slices.Reverse(l)
	makes(t, l, fields(32))
}

// P2.3: two of one name are told ahead of all else.
func TestMakeTwice(t *testing.T) {
	a := field("a", null)
	makesNone(t, api.ErrDup, a, a)
	makesNone(t, api.ErrDup, a, field("b", null), field("a", number(1)))
	makesNone(t, api.ErrDup, field("b", null), a, a)
	makesNone(t, api.ErrDup, a, field("a", api.Val{}))
	makesNone(t, api.ErrDup, field("", null), field("", null))
	makesNone(t, api.ErrDup, field("\xff", null), a, field("\xff", null))
	makesNone(t, api.ErrDup, append(fields(33).F, field("f00007", null))...)
	makesNone(t, api.ErrDup, a, field("b", api.Val{}), field("c", text("\xff")), a)
}

// P2.3: fields that make no good Doc.
func TestMakeBad(t *testing.T) {
	a := field("a", null)
	makesNone(t, api.ErrForm, a, field("b", api.Val{}))
	makesNone(t, api.ErrForm, field("b", boolean(2)), a)
	makesNone(t, api.ErrForm, field("b", doc(field("b", null), field("a", null))))
	makesNone(t, api.ErrForm, field("b", api.Val{}), field("\xff", text("\xff")), field("", null))
	makesNone(t, api.ErrText, field("\xff", null), a)
	makesNone(t, api.ErrText, field("b", text("\xff")), field("", null))
	makesNone(t, api.ErrLimit, field("", null))
	makesNone(t, api.ErrLimit, field(strings.Repeat("n", 25), null))
	makesNone(t, api.ErrLimit, fields(33).F...)
	makesNone(t, api.ErrLimit, field("a", nulls(33)))
	makesNone(t, api.ErrDeep, field("a", deepLists(8)))
	makesNone(t, api.ErrBig, field("a", text(strings.Repeat("a", 2045))))
	makes(t, []api.Field{field("a", deepLists(7))}, doc(field("a", deepLists(7))))
	makes(t, []api.Field{field("a", text(strings.Repeat("a", 2041)))}, doc(field("a", text(strings.Repeat("a", 2041)))))
	makesNone(t, api.ErrBig, field("a", text(strings.Repeat("a", 2042))))
}

// P2.4: Make of a Doc's fields, in whatever order, is it.
func TestMakeAgain(t *testing.T) {
	r := rand.New(rand.NewSource(6))
	for range 5000 {
		v := random(r, 3, false)
		if v.Kind != api.Doc {
			continue
		}
		l := slices.Clone(v.F)
		r.Shuffle(len(l), func(i, k int) { l[i], l[k] = l[k], l[i] })
		makes(t, l, v)
		x, _ := value.Make(l)
		compares(t, x, v, 0)
		for _, f := range v.F {
			finds(t, x, f.Name, f.V)
		}
	}
}
