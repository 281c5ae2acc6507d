package eval_test

import (
	"bytes"
	"fmt"
	"math/rand"
	"slices"
	"strconv"
	"strings"
	"testing"

	"tidemark/api"
	"tidemark/json"
	"tidemark/key"
	"tidemark/parse"
	"tidemark/sample"
)

// What the tests are made of, by short names.
var (
	null, boolean, number, text = sample.Null(), sample.Bool, sample.Int, sample.Text
	list, doc, field            = sample.List, sample.Doc, sample.Field
	exists, test, or, and, not  = sample.Exists, sample.Test, sample.Or, sample.And, sample.Not
	letters, cut, short         = sample.Letters, sample.Cut, sample.Short
	bad                         = sample.Bad()
)

// example is the chapter's document.
const example = `{"id":1,"t":["a"],"x":5}`

// val is the value of a text.
func val(s string) api.Val {
	v, _, e := json.Parse(s)
	if e != api.OK {
		panic(s)
	}
	return v
}

// vals are the values of the texts in l, a List.
func vals(l string) []api.Val { return val("[" + l + "]").L }

// cond is the condition of a text.
func cond(s string) api.Cond {
	c, _, e := parse.Cond(s)
	if e != api.OK {
		panic(s)
	}
	return c
}

// stmt is the statement of a text.
func stmt(s string) api.Stmt {
	x, _, e := parse.Parse(s)
	if e != api.OK {
		panic(s)
	}
	return x
}

// orders are those of a text; none, if it is empty.
func orders(s string) []api.Order {
	if s == "" {
		return nil
	}
	return stmt("find a order by " + s).Order
}

// changes are those of a text.
func changes(s string) []api.Change { return stmt("update a " + s).Changes }

// document is a Doc with that id.
func document(id api.Val) api.Val { return doc(field("id", id)) }

// told is what a call answers as a text: the value, or the error, beside which there must be none.
func told(v api.Val, e api.Errno) string {
	if e != api.OK {
		return "error " + strconv.Itoa(int(e)) + beside(sample.Show(v) != sample.Show(api.Val{}))
	}
	s, f := json.Print(v)
	if f != api.OK {
		return "a value that is not good: " + sample.Show(v)
	}
	return s
}

// toldList is what a call that tells documents answers.
func toldList(l []api.Val, e api.Errno) string {
	if e != api.OK {
		return "error " + strconv.Itoa(int(e)) + beside(len(l) > 0)
	}
	var all []string
	for _, v := range l {
		all = append(all, told(v, api.OK))
	}
	return strings.Join(all, ",")
}

// toldBool is what Holds answers.
func toldBool(is bool, e api.Errno) string {
	if e != api.OK {
		return "error " + strconv.Itoa(int(e)) + beside(is)
	}
	return strconv.FormatBool(is)
}

func beside(more bool) string {
	if more {
		return " and something beside it"
	}
	return ""
}

// fault is the text of an error.
func fault(e api.Errno) string { return told(api.Val{}, e) }

// is sees to it that a call's answer is the one that is wanted.
func is(t *testing.T, call, got, want string) {
	t.Helper()
	if got != want {
		t.Errorf("%s: %s, want %s", cut(call), cut(got), cut(want))
	}
}

// showCond is a condition with all its parts.
func showCond(c api.Cond) string { return cut(sample.ShowCond(c)) }

// lead is path.Get by another hand, of good values and of paths; no path leads nowhere.
func lead(v api.Val, p string) (api.Val, bool) {
	if p == "" {
		return api.Val{}, false
	}
	for _, step := range strings.Split(p, ".") {
		at := -1
		if n, e := strconv.Atoi(step); e == nil && v.Kind == api.List && n < len(v.L) {
			v = v.L[n]
			continue
		}
		if v.Kind == api.Doc && (step[0] < '0' || step[0] > '9') {
			at = slices.IndexFunc(v.F, func(f api.Field) bool { return f.Name == step })
		}
		if at < 0 {
			return api.Val{}, false
		}
		v = v.F[at].V
	}
	return v, true
}

// order is the order of good values by another hand: by that of their keys.
func order(a, b api.Val) int {
	k, _ := key.Of(a)
	l, _ := key.Of(b)
	return bytes.Compare(k, l)
}

// holdsOtherwise is what Holds tells of good ones, by another hand: by how many parts hold, and what place a value has.
func holdsOtherwise(c api.Cond, v api.Val) bool {
	held := 0
	for _, part := range c.L {
		if holdsOtherwise(part, v) {
			held++
		}
	}
	switch c.Op {
	case "":
		return true
	case "or":
		return held > 0
	case "and":
		return held == len(c.L)
	case "not":
		return held == 0
	}
	x, there := lead(v, c.Path)
	if !there {
		return c.Op == "!="
	}
	switch c.Op {
	case "exists":
		return true
	case "in":
		shown := sample.Show(x)
		return slices.ContainsFunc(c.V.L, func(y api.Val) bool { return sample.Show(y) == shown })
	}
	n := order(x, c.V)
	if x.Kind != c.V.Kind {
		return c.Op == "!="
	}
	return slices.Contains(strings.Fields(map[int]string{-1: "!= < <=", 0: "= <= >=", 1: "!= > >="}[n]), c.Op)
}

// one is one of l.
func one[T any](r *rand.Rand, l ...T) T { return l[r.Intn(len(l))] }

// maker makes values and statements by chance, of few names and small numbers, so that paths often lead somewhere and values are often the same.
func maker(r *rand.Rand) sample.Maker {
	return sample.Maker{
		Chance: r,
		Texts:  []string{"", "a", "ab"},
		Names:  []string{"0", "a", "b", "id", "\u00e4"},
		Firsts: []string{"a", "b", "id", "z", "a", "b"},
		Steps:  []string{"a", "b", "0", "1", "id"},
		Spoil: func(v api.Val) api.Val {
			if v.Kind == api.Int {
				v.N %= 3
			}
			return v
		},
	}
}

// random is a document by chance, with one of few ids.
func random(r *rand.Rand) api.Val {
	v := doc()
	for _, name := range []string{"a", "b"} {
		if r.Intn(4) > 0 {
			v.F = append(v.F, field(name, maker(r).Value(r.Intn(3))))
		}
	}
	v.F = append(v.F, field("id", one(r, number(int64(r.Intn(5))), text(letters(r.Intn(3))))))
	if r.Intn(3) == 0 {
		v.F = append(v.F, field("\u00e4", null))
	}
	return v
}

// randoms are fewer than that many documents.
func randoms(r *rand.Rand, most int) []api.Val {
	var l []api.Val
	for range r.Intn(most) {
		l = append(l, random(r))
	}
	return l
}

// randomCond is a condition by chance that check lets pass; some of its tests are by what v has there, or by what is near that.
func randomCond(r *rand.Rand, v api.Val) api.Cond { return aimed(r, maker(r).Cond(r.Intn(4)), v) }

// aimed is c with some tests aimed at v, and a List in each `in`.
func aimed(r *rand.Rand, c api.Cond, v api.Val) api.Cond {
	c.L = slices.Clone(c.L)
	for i, part := range c.L {
		c.L[i] = aimed(r, part, v)
	}
	if x, there := lead(v, c.Path); there && c.Op != "exists" && r.Intn(2) == 0 {
		c.V = near(r, x)
	}
	if c.Op == "in" && c.V.Kind != api.List {
		c.V = list(null, c.V, number(0), text("a"), list())
	}
	return c
}

// near is v, or one of its Kind that is beside it.
func near(r *rand.Rand, v api.Val) api.Val {
	switch v.Kind {
	case api.Bool:
		v.N = int64(r.Intn(2))
	case api.Int:
		v.N += int64(r.Intn(3) - 1)
	case api.Text:
		v.S = one(r, v.S, v.S+"a", "")
	case api.List:
		v.L = v.L[:max(0, len(v.L)-r.Intn(2))]
	case api.Doc:
		v.F = v.F[:max(0, len(v.F)-r.Intn(2))]
	}
	return v
}

// badPaths are texts that are no paths.
var badPaths = []string{"", ".", "a.", ".a", "a..b", "a b", " a", "a ", "01", "a.01", "-1", "100", "\u00e4", "\xff", "a\x00", letters(25), "a." + letters(25), "a.b.c.d.e.f.g.h.i", letters(300)}

// counted sees to it that each of these was told often enough that a test by chance tries them all.
func counted(t *testing.T, told map[string]int, least int, these ...string) {
	t.Helper()
	for _, s := range these {
		if told[s] < least {
			t.Errorf("%q was told %d times: %s", s, told[s], fmt.Sprint(told))
		}
	}
}
