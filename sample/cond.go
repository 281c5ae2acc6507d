package sample

import (
	"slices"

	"tidemark/api"
	"tidemark/words"
)

// BadPaths are texts that are no paths.
func BadPaths() []string {
	return []string{"", ".", "a.", ".a", "a..b", "a b", " a", "a ", "01", "a.01", "-1", "100", "\u00e4", "\xff", "a\x00", Letters(25), "a." + Letters(25), "a.b.c.d.e.f.g.h.i", Letters(300)}
}

// BadConds are conditions that no text tells, not even their own.
func BadConds() []api.Cond {
	x, null, list := Exists("x"), Null(), List()
	l := []api.Cond{
		{Path: "x"}, {L: []api.Cond{x}}, {Path: "x", V: Int(1)}, {V: null}, {V: api.Val{N: 1}}, Or(), And(), Or(x), And(x), Or(Or(x)), {Op: "not"}, {Op: "not", L: []api.Cond{x, x}}, {Op: "not", L: []api.Cond{{}}}, Or(x, api.Cond{}), And(api.Cond{}, x), Or(x, And(x)), And(Or(), x),
		{Op: "not", Path: "x", L: []api.Cond{x}}, {Op: "or", Path: "x", L: []api.Cond{x, x}}, {Op: "and", V: null, L: []api.Cond{x, x}}, {Op: "or", V: null, L: []api.Cond{x, x}}, {Op: "not", V: null, L: []api.Cond{x}},
		{Op: "exists", Path: "x", V: null}, {Op: "exists", Path: "x", L: []api.Cond{x}}, {Op: "exists"}, {Op: "=", Path: "x"}, {Op: "in", Path: "x"}, {Op: "=", V: null}, {Op: "in", Path: "x", V: list, L: []api.Cond{x}}, {Op: "<", Path: "x", V: null, L: []api.Cond{x}},
		{Op: "==", Path: "x", V: null}, {Op: "!", Path: "x", V: null}, {Op: "foo", Path: "x", V: null}, {Op: "Exists", Path: "x"}, {Op: "(", Path: "x", V: null}, {Op: "= ", Path: "x", V: null}, {Op: "exists or x exists", Path: "x"}, {Op: "OR", L: []api.Cond{x, x}}, {Op: "limit", Path: "x", V: Int(1)}, {Op: "\xff", Path: "x", V: null},
		Exists("not"), Exists("not.x"), Test("not", "=", null),
		Within(18, x, Not), Within(19, x, func(c api.Cond) api.Cond { return Or(c, x) }), Or(slices.Repeat([]api.Cond{x}, 684)...),
	}
	for _, p := range BadPaths() {
		l = append(l, Exists(p), Test(p, "=", null), Test(p, "in", list))
	}
	for _, f := range Bad() {
		l = append(l, Test("x", "=", f.V), Test("x", "!=", f.V), Test("x", ">=", f.V), Test("x", "in", f.V), Test("x", "in", List(f.V)))
	}
	return l
}

// Around are a condition by itself, and within others, ahead of what alone would tell whether these hold and behind it.
func Around(c api.Cond) []api.Cond {
	x, y := Exists("x"), Exists("y")
	return []api.Cond{c, Not(c), Or(c, x), Or(x, c), And(c, y), And(y, c), Or(x, x, c, y), And(y, y, c, x), Not(Not(And(Or(x, c), y))), Or(x, And(y, Not(Or(x, c))))}
}

// Aimed is c, which check lets pass then: some of its tests are by what v has there, or by what is near that, and in each `in` is a List.
func Aimed(r Chance, c api.Cond, v api.Val) api.Cond {
	c.L = slices.Clone(c.L)
	for i, part := range c.L {
		c.L[i] = Aimed(r, part, v)
	}
	if x, there := Lead(v, c.Path); there && c.Op != words.Exists && r.Intn(2) == 0 {
		c.V = Near(r, x)
	}
	if c.Op == words.In && c.V.Kind != api.List {
		c.V = List(Null(), c.V, Int(0), Text("a"), List())
	}
	return c
}

// Near is the good value v, or one of its Kind that is beside it.
func Near(r Chance, v api.Val) api.Val {
	switch v.Kind {
	case api.Bool:
		v.N = int64(r.Intn(2))
	case api.Int:
		v.N += int64(r.Intn(3) - 1)
	case api.Text:
		v.S = []string{v.S, v.S + "a", ""}[r.Intn(3)]
	case api.List:
		v.L = v.L[:max(0, len(v.L)-r.Intn(2))]
	case api.Doc:
		v.F = v.F[:max(0, len(v.F)-r.Intn(2))]
	}
	return v
}
