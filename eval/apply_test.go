package eval_test

import (
	"fmt"
	"math/rand"
	"slices"
	"strings"
	"testing"

	"tidemark/api"
	"tidemark/check"
	"tidemark/eval"
	"tidemark/path"
	"tidemark/sample"
)

// applies sees to it that the changes of a text make of that document the one wanted.
func applies(t *testing.T, v, l, want string) {
	t.Helper()
	is(t, "Apply to "+v+" "+l, told(eval.Apply(val(v), changes(l))), want)
}

// appliesNone sees to it that Apply tells that error.
func appliesNone(t *testing.T, v api.Val, l []api.Change, want api.Errno) {
	t.Helper()
	is(t, "Apply to "+short(v)+" "+cut(sample.ShowStmt(api.Stmt{Changes: l})), told(eval.Apply(v, l)), fault(want))
}

// The chapter's example.
func TestApplyExample(t *testing.T) {
	applies(t, example, `set y.z = 2, push t "b", add x 1`, `{"id":1,"t":["a","b"],"x":6,"y":{"z":2}}`)
}

// P17.1: each Do, and none at all.
func TestApply(t *testing.T) {
	for _, v := range []string{example, `{"id":""}`, `{"a":{"b":[[]]},"id":"x"}`} {
		is(t, "no change", told(eval.Apply(val(v), nil)), v)
		is(t, "no change", told(eval.Apply(val(v), []api.Change{})), v)
	}
	applies(t, example, "set x = 6", `{"id":1,"t":["a"],"x":6}`)
	applies(t, example, `set x = {"a":[null]}`, `{"id":1,"t":["a"],"x":{"a":[null]}}`)
	applies(t, example, "set a.b.c = []", `{"a":{"b":{"c":[]}},"id":1,"t":["a"],"x":5}`)
	applies(t, example, "set t.0 = true", `{"id":1,"t":[true],"x":5}`)
	applies(t, example, "unset x", `{"id":1,"t":["a"]}`)
	applies(t, example, "unset t.0", `{"id":1,"t":[],"x":5}`)
	applies(t, example, "unset t.1, unset y, unset x.y", example)
	applies(t, example, "push t [1]", `{"id":1,"t":["a",[1]],"x":5}`)
	applies(t, example, "add x -7", `{"id":1,"t":["a"],"x":-2}`)
	applies(t, example, "add x 9223372036854775802", `{"id":1,"t":["a"],"x":9223372036854775807}`)
	applies(t, example, "unset x, unset t", `{"id":1}`)
}

// P17.1: one behind the other, in their order: what is ahead moves what is behind, and makes room for it.
func TestApplyInOrder(t *testing.T) {
	const l = `{"id":1,"l":[1,2,3]}`
	applies(t, l, "unset l.0, unset l.1", `{"id":1,"l":[2]}`)
	applies(t, l, "unset l.1, unset l.0", `{"id":1,"l":[3]}`)
	applies(t, l, "unset l.0, set l.1 = 7", `{"id":1,"l":[2,7]}`)
	applies(t, l, "set l.1 = 7, unset l.0", `{"id":1,"l":[7,3]}`)
	applies(t, l, "unset l.0, add l.1 5", `{"id":1,"l":[2,8]}`)
	applies(t, l, "unset l.0, set l.2 = 7", fault(api.ErrName))
	applies(t, l, "set l.2 = 7, unset l.0", `{"id":1,"l":[2,7]}`)
	applies(t, l, "unset l.0, unset l.2", `{"id":1,"l":[2,3]}`)
	applies(t, `{"id":1,"l":[[1],[2]]}`, "unset l.0, push l.1 3", fault(api.ErrName))
	applies(t, `{"id":1,"l":[[1],[2]]}`, "push l.1 3, unset l.0", `{"id":1,"l":[[2,3]]}`)
	applies(t, `{"id":1}`, "set a.b = 1, set a.c = 2, set a.a = 3", `{"a":{"a":3,"b":1,"c":2},"id":1}`)
	full := sample.Fields(31)
	full.F = append(full.F, field("id", number(1)))
	is(t, "room ahead", told(eval.Apply(full, changes("unset f00000, set z = 1"))), told(path.Set(must(path.Unset(full, "f00000")), "z", number(1))))
	appliesNone(t, full, changes("set z = 1, unset f00000"), api.ErrLimit)
	big := doc(field("a", text(letters(1000))), field("b", text(letters(1000))), field("id", number(1)))
	is(t, "room for bytes", told(eval.Apply(big, []api.Change{sample.Change("unset", "a", api.Val{}), sample.Change("set", "c", text(letters(1000)))})), told(doc(field("b", text(letters(1000))), field("c", text(letters(1000))), field("id", number(1))), api.OK))
	appliesNone(t, big, []api.Change{sample.Change("set", "c", text(letters(1000))), sample.Change("unset", "a", api.Val{})}, api.ErrBig)
}

// must is a value that is told without an error.
func must(v api.Val, e api.Errno) api.Val {
	if e != api.OK {
		panic(e)
	}
	return v
}

// refused are changes that path refuses, each with its error, whose paths do not touch one another.
func refused() map[api.Errno][]api.Change {
	return map[api.Errno][]api.Change{
		api.ErrSyntax: {sample.Change("set", "01", null), sample.Change("unset", "a b", api.Val{}), sample.Change("push", "", null), sample.Change("add", "c.", number(1))},
		api.ErrForm:   {sample.Change("set", "d", api.Val{}), sample.Change("push", "t", boolean(2)), sample.Change("set", "e.0", list(api.Val{}))},
		api.ErrText:   {sample.Change("set", "f", text("\xff")), sample.Change("push", "t", text("\xff"))},
		api.ErrKind:   {sample.Change("set", "x.y", null), sample.Change("set", "t.y", null), sample.Change("set", "x.0", null), sample.Change("push", "x", null), sample.Change("add", "t", number(1)), sample.Change("add", "t.0", number(1))},
		api.ErrName:   {sample.Change("set", "t.1", null), sample.Change("push", "g", null), sample.Change("push", "x.0", null), sample.Change("add", "h", number(1)), sample.Change("add", "t.1", number(0))},
		api.ErrNumber: {sample.Change("add", "x", number(9223372036854775803)), sample.Change("add", "x", number(9223372036854775807))},
		api.ErrDeep:   {sample.Change("set", "k", sample.DeepLists(8)), sample.Change("push", "t", sample.DeepLists(7)), sample.Change("set", "l", sample.DeepDocs(9))},
		api.ErrLimit:  {sample.Change("set", "m", sample.Nulls(33)), sample.Change("push", "t", sample.Fields(33))},
		api.ErrBig:    {sample.Change("set", "n", text(letters(2030))), sample.Change("push", "t", text(letters(2045)))},
	}
}

// P17.1: the errors of path, of which the first one is told: by the changes' order, whatever is done well ahead of it and behind.
func TestApplyErrors(t *testing.T) {
	v := val(example)
	for e, l := range refused() {
		for _, c := range l {
			appliesNone(t, v, []api.Change{c}, e)
			appliesNone(t, v, slices.Insert(changes("set z = 1, unset y"), 1, c), e)
			appliesNone(t, v, append(changes("unset z.y, set y.q = 1"), c), e)
			for f, m := range refused() {
				for _, d := range m {
					if !check.Touches(c.Path, d.Path) {
						appliesNone(t, v, []api.Change{c, d}, e)
						appliesNone(t, v, append(changes("set z = 1"), d, c), f)
					}
				}
			}
		}
	}
}

// P17.1: check.Id's error, ahead of all others.
func TestApplyToNoDocument(t *testing.T) {
	faults := []sample.Fault{{V: null, E: api.ErrKind}, {V: number(1), E: api.ErrKind}, {V: list(val(example)), E: api.ErrKind}, {V: doc(), E: api.ErrKey}, {V: document(null), E: api.ErrKey}, {V: document(text(letters(65))), E: api.ErrKey}, {V: doc(field("x", val(example))), E: api.ErrKey}}
	for _, f := range append(faults, bad...) {
		for _, l := range [][]api.Change{nil, changes("set y = 1"), changes("set id = 1"), changes("set x = 1, unset x"), changes("push x 1"), {{}}, {{Do: "set", Path: "01"}}, make([]api.Change, 9)} {
			appliesNone(t, f.V, l, f.E)
		}
	}
	is(t, "an id of 64 bytes", told(eval.Apply(document(text(letters(64))), changes("set x = 1"))), `{"id":"`+letters(64)+`","x":1}`)
}

// P17.1: ErrForm, where check.Stmt would refuse the changes: too many, one that touches `id`, two that touch; ahead of path's errors.
func TestApplyNoChanges(t *testing.T) {
	v := val(example)
	fails := sample.Change("add", "q", number(1))
	for _, l := range []string{
		"set id = 1", "set id = 2", "unset id", "add id 1", "push id 1", "set id.x = 1", "unset id.0", "set x = 1, unset x", "set a.b = 1, set a = 2", "set a = 1, unset a.b.c", "push t 1, set t.0 = 2", "unset t.0, add t.0 1", "set y = 1, set z = 2, unset y", "set y = 1, add id 1",
		"unset a, unset b, unset c, unset d, unset e, unset f, unset g, unset h, unset i",
	} {
		appliesNone(t, v, changes(l), api.ErrForm)
		appliesNone(t, v, append([]api.Change{fails}, changes(l)...), api.ErrForm)
		appliesNone(t, v, append(changes(l), fails), api.ErrForm)
	}
	applies(t, example, "set a=1, set b=2, set c=3, set d=4, set e=5, set f=6, set g=7, set h=8", `{"a":1,"b":2,"c":3,"d":4,"e":5,"f":6,"g":7,"h":8,"id":1,"t":["a"],"x":5}`)
	applies(t, example, "set x.id = 1", fault(api.ErrKind))
	applies(t, example, "set ida = 1, set ID = 2, set y.id = 3", `{"ID":2,"id":1,"ida":1,"t":["a"],"x":5,"y":{"id":3}}`)
	appliesNone(t, v, make([]api.Change, 1<<16), api.ErrForm)
	// What is no path touches nothing: so these are path's to refuse.
	appliesNone(t, v, []api.Change{sample.Change("set", "01", null), sample.Change("set", "01", null)}, api.ErrSyntax)
	appliesNone(t, v, []api.Change{sample.Change("set", "id.", null)}, api.ErrSyntax)
}

// P17.1: ErrForm, where one's Do is none, at whatever place, ahead of path's errors of those ahead of it.
func TestApplyNoDo(t *testing.T) {
	for _, do := range []string{"", "foo", "Set", "set ", " set", "SET", "set unset", "setunset", "=", "put", "remove", "insert", "\xff", "set\x00", letters(1 << 16)} {
		for _, p := range []string{"y", "x", "t.0", "01", ""} {
			c := sample.Change(do, p, number(1))
			appliesNone(t, val(example), []api.Change{c}, api.ErrForm)
			appliesNone(t, val(example), append(changes("set a = 1, set b = 2"), c), api.ErrForm)
			appliesNone(t, val(example), append([]api.Change{c}, changes("set a = 1")...), api.ErrForm)
			appliesNone(t, val(example), append(changes("add q 1"), c, sample.Change("push", "q.r", null)), api.ErrForm)
		}
	}
}

// applyOtherwise is Apply by another hand, of a document and of changes that check lets pass.
func applyOtherwise(v api.Val, l []api.Change) string {
	for _, c := range l {
		if !slices.Contains(strings.Fields("set unset push add"), c.Do) {
			return fault(api.ErrForm)
		}
	}
	for _, c := range l {
		e := api.OK
		if c.Do == "set" {
			v, e = path.Set(v, c.Path, c.V)
		}
		if c.Do == "unset" {
			v, e = path.Unset(v, c.Path)
		}
		if c.Do == "push" {
			v, e = path.Push(v, c.Path, c.V)
		}
		if c.Do == "add" {
			v, e = path.Add(v, c.Path, c.V.N)
		}
		if e != api.OK {
			return fault(e)
		}
	}
	return told(v, api.OK)
}

// randomChanges are some changes by chance that check lets pass.
func randomChanges(r *rand.Rand, most int) []api.Change {
	var l []api.Change
	for range r.Intn(most) {
		c := maker(r).Change()
		if !check.Touches(c.Path, "id") && !slices.ContainsFunc(l, func(d api.Change) bool { return check.Touches(c.Path, d.Path) }) {
			l = append(l, c)
		}
	}
	return l
}

// P17.1: documents and changes by chance, held against another hand.
func TestApplyByChance(t *testing.T) {
	r := rand.New(rand.NewSource(5))
	seen := map[string]int{}
	for range 20000 {
		v, l := random(r), randomChanges(r, 6)
		if len(l) > 0 && r.Intn(20) == 0 {
			l[r.Intn(len(l))].Do = one(r, "", "foo", "get")
		}
		want := applyOtherwise(v, l)
		seen[fmt.Sprint(strings.HasPrefix(want, "error"))]++
		if is(t, "Apply to "+short(v)+" "+sample.ShowStmt(api.Stmt{Changes: l}), told(eval.Apply(v, l)), want); t.Failed() {
			return
		}
	}
	counted(t, seen, 2000, "true", "false")
}
