package eval_test

import (
	"bytes"
	"fmt"
	"math/rand"
	"slices"
	"strconv"
	"strings"
	"testing"

	"tidemark/api"
	"tidemark/json"
	"tidemark/key"
	"tidemark/parse"
	"tidemark/sample"
)

// What the tests are made of, by short names.
var (
	null, boolean, number, text = sample.Null(), sample.Bool, sample.Int, sample.Text
	list, doc, field            = sample.List, sample.Doc, sample.Field
	exists, test, or, and, not  = sample.Exists, sample.Test, sample.Or, sample.And, sample.Not
	letters, cut, short         = sample.Letters, sample.Cut, sample.Short
	lead, within                = sample.Lead, sample.Around
	bad, badPaths               = sample.Bad(), sample.BadPaths()
)

// maker and random make values, statements and documents by chance.
func maker(r *rand.Rand) sample.Maker { return sample.Few(r) }
func random(r *rand.Rand) api.Val     { return sample.Document(r) }

// example is the chapter's document.
const example = `{"id":1,"t":["a"],"x":5}`

// val is the value of a text.
func val(s string) api.Val {
	v, _, e := json.Parse(s)
	if e != api.OK {
		panic(s)
	}
	return v
}

// vals are the values of the texts in l, a List.
func vals(l string) []api.Val { return val("[" + l + "]").L }

// cond is the condition of a text.
func cond(s string) api.Cond {
	c, _, e := parse.Cond(s)
	if e != api.OK {
		panic(s)
	}
	return c
}

// stmt is the statement of a text.
func stmt(s string) api.Stmt {
	x, _, e := parse.Parse(s)
	if e != api.OK {
		panic(s)
	}
	return x
}

// orders are those of a text; none, if it is empty.
func orders(s string) []api.Order {
	if s == "" {
		return nil
	}
	return stmt("find a order by " + s).Order
}

// changes are those of a text.
func changes(s string) []api.Change { return stmt("update a " + s).Changes }

// document is a Doc with that id.
func document(id api.Val) api.Val { return doc(field("id", id)) }

// told is what a call answers as a text: the value, or the error, beside which there must be none.
func told(v api.Val, e api.Errno) string {
	if e != api.OK {
		return "error " + strconv.Itoa(int(e)) + beside(sample.Show(v) != sample.Show(api.Val{}))
	}
	s, f := json.Print(v)
	if f != api.OK {
		return "a value that is not good: " + sample.Show(v)
	}
	return s
}

// toldList is what a call that tells documents answers.
func toldList(l []api.Val, e api.Errno) string {
	if e != api.OK {
		return "error " + strconv.Itoa(int(e)) + beside(len(l) > 0)
	}
	var all []string
	for _, v := range l {
		all = append(all, told(v, api.OK))
	}
	return strings.Join(all, ",")
}

// toldBool is what Holds answers.
func toldBool(is bool, e api.Errno) string {
	if e != api.OK {
		return "error " + strconv.Itoa(int(e)) + beside(is)
	}
	return strconv.FormatBool(is)
}

func beside(more bool) string {
	if more {
		return " and something beside it"
	}
	return ""
}

// fault is the text of an error.
func fault(e api.Errno) string { return told(api.Val{}, e) }

// is sees to it that a call's answer is the one that is wanted.
func is(t *testing.T, call, got, want string) {
	t.Helper()
	if got != want {
		t.Errorf("%s: %s, want %s", cut(call), cut(got), cut(want))
	}
}

// showCond is a condition with all its parts.
func showCond(c api.Cond) string { return cut(sample.ShowCond(c)) }

// order is the order of good values by another hand: by that of their keys.
func order(a, b api.Val) int {
	k, _ := key.Of(a)
	l, _ := key.Of(b)
	return bytes.Compare(k, l)
}

// holdsOtherwise is what Holds tells of good ones, by another hand: by how many parts hold, and what place a value has.
func holdsOtherwise(c api.Cond, v api.Val) bool {
	held := 0
	for _, part := range c.L {
		if holdsOtherwise(part, v) {
			held++
		}
	}
	switch c.Op {
	case "":
		return true
	case "or":
		return held > 0
	case "and":
		return held == len(c.L)
	case "not":
		return held == 0
	}
	x, there := lead(v, c.Path)
	if !there {
		return c.Op == "!="
	}
	switch c.Op {
	case "exists":
		return true
	case "in":
		shown := sample.Show(x)
		return slices.ContainsFunc(c.V.L, func(y api.Val) bool { return sample.Show(y) == shown })
	}
	n := order(x, c.V)
	if x.Kind != c.V.Kind {
		return c.Op == "!="
	}
	return slices.Contains(strings.Fields(map[int]string{-1: "!= < <=", 0: "= <= >=", 1: "!= > >="}[n]), c.Op)
}

// one is one of l.
func one[T any](r *rand.Rand, l ...T) T { return l[r.Intn(len(l))] }

// randoms are fewer than that many documents.
func randoms(r *rand.Rand, most int) []api.Val {
	var l []api.Val
	for range r.Intn(most) {
		l = append(l, random(r))
	}
	return l
}

// randomCond is a condition by chance that check lets pass; some of its tests are by what v has there, or by what is near that.
func randomCond(r *rand.Rand, v api.Val) api.Cond {
	return sample.Aimed(r, maker(r).Cond(r.Intn(4)), v)
}

// counted sees to it that each of these was told often enough that a test by chance tries them all.
func counted(t *testing.T, told map[string]int, least int, these ...string) {
	t.Helper()
	for _, s := range these {
		if told[s] < least {
			t.Errorf("%q was told %d times: %s", s, told[s], fmt.Sprint(told))
		}
	}
}
