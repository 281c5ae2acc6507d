package eval_test

import (
	"math/rand"
	"slices"
	"strings"
	"testing"

	"tidemark/api"
	"tidemark/check"
	"tidemark/eval"
	"tidemark/sample"
)

// shows sees to it that of the Doc of that text so much is shown.
func shows(t *testing.T, v, want string, paths ...string) {
	t.Helper()
	is(t, "Show of "+v+" "+strings.Join(paths, ", "), told(eval.Show(val(v), paths)), want)
}

// showsNone sees to it that Show tells that error.
func showsNone(t *testing.T, v api.Val, paths []string, want api.Errno) {
	t.Helper()
	is(t, "Show of "+short(v)+" "+cut(strings.Join(paths, ", ")), told(eval.Show(v, paths)), fault(want))
}

// The chapter's example.
func TestShowExample(t *testing.T) { shows(t, example, `{"t":["a"],"x":5}`, "x", "t") }

// nested is a Doc in which Docs stand within one another; it need have no id.
const nested = `{"a":{"b":1,"c":{"d":2,"e":[{"f":3}]},"\u00e4":4},"aa":5,"b":null,"l":[{"m":6}]}`

// P17.1: without paths all is shown; else what they lead to, each at its path, whatever their order.
func TestShow(t *testing.T) {
	for _, v := range []string{example, nested, "{}", `{"\u00e4":{"0":[]}}`} {
		shows(t, v, told(val(v), api.OK))
	}
	shows(t, nested, `{"b":null}`, "b")
	shows(t, nested, `{"a":{"b":1,"c":{"d":2,"e":[{"f":3}]},"ä":4}}`, "a")
	shows(t, nested, `{"a":{"b":1}}`, "a.b")
	shows(t, nested, `{"a":{"c":{"e":[{"f":3}]}}}`, "a.c.e")
	shows(t, nested, `{"a":{"b":1,"c":{"d":2}},"aa":5}`, "aa", "a.c.d", "a.b")
	shows(t, nested, `{"a":{"c":{"d":2,"e":[{"f":3}]}},"l":[{"m":6}]}`, "l", "a.c.e", "a.c.d")
	shows(t, nested, `{"a":{"b":1,"c":{"d":2,"e":[{"f":3}]}}}`, "a.c", "a.b")
	shows(t, example, `{"x":5}`, "x")
	shows(t, example, `{"id":1}`, "id")
	l := []string{"x", "t", "id", "y"}
	for range 3 {
		shows(t, example, told(val(example), api.OK), l...)
		l = append(l[1:], l[0])
	}
}

// P17.1: a path that leads nowhere shows nothing, and no Doc on the way to it.
func TestShowNowhere(t *testing.T) {
	for _, p := range []string{"z", "z.y", "A", "a.z", "a.c.z", "a.b.z", "a.c.e.f", "a.c.e.m", "b.z", "l.m", "aaa", "a.a", "a.b.c.d.e.f.g.h"} {
		shows(t, nested, "{}", p)
		if p != "b.z" {
			shows(t, nested, `{"b":null}`, p, "b")
		}
		shows(t, nested, `{"aa":5}`, "aa", p)
		shows(t, "{}", "{}", p)
	}
	shows(t, nested, `{"a":{"c":{"d":2}}}`, "a.z.y", "a.c.d", "a.c.z", "z")
	shows(t, nested, "{}", "z", "y", "x.w", "a.c.z")
}

// P17.1: at the limits of values and of paths.
func TestShowAtLimits(t *testing.T) {
	wide := doc()
	for _, c := range "abcdefghijklmnopqrstuvwxyz" {
		wide.F = append(wide.F, field(string(c), number(int64(c))))
	}
	is(t, "eight paths", told(eval.Show(wide, strings.Split("h,g,a,b,c,d,e,f", ","))), `{"a":97,"b":98,"c":99,"d":100,"e":101,"f":102,"g":103,"h":104}`)
	deep := sample.DeepDocs(8)
	is(t, "a deep path", told(eval.Show(deep, []string{"a.a.a.a.a.a.a"})), told(deep, api.OK))
	is(t, "a deep path that leads nowhere", told(eval.Show(deep, []string{"a.a.a.a.a.a.a.a"})), "{}")
	big := doc(field("a", text(letters(2037))), field("b", doc()))
	for _, paths := range [][]string{nil, {"a", "b"}, {"b", "a"}} {
		is(t, "a big one", told(eval.Show(big, paths)), told(big, api.OK))
	}
}

// P17.1: Good's error of doc, then ErrKind of one that is no Doc, then ErrForm.
func TestShowOfNoDoc(t *testing.T) {
	lists := [][]string{nil, {"x"}, {"x", "y.z"}, {"x", "x"}, {""}, {"0"}, {"a", "b", "c", "d", "e", "f", "g", "h", "i"}}
	for _, paths := range lists {
		for _, f := range bad {
			showsNone(t, f.V, paths, f.E)
			showsNone(t, doc(field("x", f.V)), paths, f.E)
		}
		for _, v := range vals(`null,true,5,"x",[],[{"id":1,"x":2}]`) {
			showsNone(t, v, paths, api.ErrKind)
		}
		if check.Stmt(api.Stmt{Show: paths}) != api.OK {
			showsNone(t, val(example), paths, api.ErrForm)
			showsNone(t, doc(), paths, api.ErrForm)
		}
	}
}

// P17.1: ErrForm, where check.Stmt would refuse the paths: too many, no path, a step that is a place, two that touch.
func TestShowNoPaths(t *testing.T) {
	v := val(nested)
	for _, p := range append([]string{"0", "l.0", "l.0.m", "99", "a.c.e.0", "a.b.c.d.e.f.g.0"}, badPaths...) {
		for _, l := range [][]string{nil, {"b"}, {"b", "aa", "z"}, {"b", "aa", "c", "d", "e", "f", "g"}} {
			for at := range len(l) + 1 {
				showsNone(t, v, slices.Insert(slices.Clone(l), at, p), api.ErrForm)
			}
		}
	}
	for _, l := range []string{"a a", "a a.b", "a.b a", "a.b.c a", "a.b z a.b", "b a c d e f g b", "z.y z", "a b c d e f g h i", "a b c d e f g h i k l m n"} {
		showsNone(t, v, strings.Fields(l), api.ErrForm)
	}
	showsNone(t, v, make([]string, 1<<16), api.ErrForm)
}

// pruned is Show by another hand: v at that path without what no path of l leads to; false: nothing is left.
func pruned(v api.Val, at string, l []string) (api.Val, bool) {
	if slices.Contains(l, at) {
		return v, true
	}
	if v.Kind != api.Doc {
		return v, false
	}
	var left []api.Field
	for _, f := range v.F {
		if x, ok := pruned(f.V, strings.TrimPrefix(at+"."+f.Name, "."), l); ok {
			left = append(left, field(f.Name, x))
		}
	}
	v.F = left
	return v, len(left) > 0
}

// randomPaths are fewer than that many paths by chance of which none touches another one, in names alone.
func randomPaths(r *rand.Rand, most int) []string {
	var l []string
	for range r.Intn(most) {
		m := maker(r)
		m.Steps = []string{"a", "b", "id"}
		p := m.Path()
		if !slices.ContainsFunc(l, func(q string) bool { return check.Touches(p, q) }) {
			l = append(l, p)
		}
	}
	return l
}

// P17.1: Docs and paths by chance, held against another hand.
func TestShowByChance(t *testing.T) {
	r := rand.New(rand.NewSource(4))
	empty := 0
	for range 20000 {
		v, l := random(r), randomPaths(r, 6)
		if r.Intn(4) == 0 {
			v = doc(field("a", v), field("b", random(r)))
		}
		want, ok := pruned(v, "", l)
		if len(l) == 0 {
			want = v
		} else if !ok {
			want = doc()
			empty++
		}
		if is(t, "Show of "+short(v)+" "+strings.Join(l, ", "), told(eval.Show(v, l)), told(want, api.OK)); t.Failed() {
			return
		}
	}
	if empty < 100 || empty > 15000 {
		t.Errorf("nothing was shown %d times", empty)
	}
}
