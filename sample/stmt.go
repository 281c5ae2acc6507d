package sample

import (
	"math"

	"tidemark/api"
	"tidemark/words"
)

// Exists is the test whether the path leads anywhere.
func Exists(path string) api.Cond { return api.Cond{Op: words.Exists, Path: path} }

// Test is a test by that Op.
func Test(path, op string, v api.Val) api.Cond { return api.Cond{Op: op, Path: path, V: v} }

// Or is one of l, good if there are two or more.
func Or(l ...api.Cond) api.Cond { return api.Cond{Op: words.Or, L: l} }

// And is all of l, good if there are two or more.
func And(l ...api.Cond) api.Cond { return api.Cond{Op: words.And, L: l} }

// Not is c turned round.
func Not(c api.Cond) api.Cond { return api.Cond{Op: words.Not, L: []api.Cond{c}} }

// Within is c within so many.
func Within(n int, c api.Cond, in func(api.Cond) api.Cond) api.Cond {
	for range n {
		c = in(c)
	}
	return c
}

// Change is a change.
func Change(do, path string, v api.Val) api.Change { return api.Change{Do: do, Path: path, V: v} }

// Verbs are all that a statement may begin with.
func Verbs() []string {
	return []string{words.Make, words.Drop, words.Index, words.Unindex, words.Insert, words.Replace, words.Get, words.Find, words.Count, words.Delete, words.Update}
}

// Signs are the signs by which a test goes.
func Signs() []string { return []string{"=", "!=", "<", "<=", ">", ">="} }

// Path is a path.
func (m Maker) Path() string {
	p := one(m, m.Firsts)
	for range m.Chance.Intn(4) * m.Chance.Intn(3) {
		p += "." + one(m, m.Steps)
	}
	return p
}

// Cond is a condition of at most that depth.
func (m Maker) Cond(depth int) api.Cond {
	part := func() api.Cond { return m.Cond(depth - 1) }
	if depth > 0 {
		switch m.Chance.Intn(5) {
		case 0:
			return Or(some(m, 2, part)...)
		case 1:
			return And(some(m, 2, part)...)
		case 2:
			return Not(part())
		}
	}
	if m.Chance.Intn(4) == 0 {
		return Exists(m.Path())
	}
	return Test(m.Path(), one(m, append(Signs(), words.In)), m.Value(m.Chance.Intn(4)))
}

// Change is a change.
func (m Maker) Change() api.Change {
	c := Change(one(m, []string{words.Set, words.Unset, words.Push, words.Add}), m.Path(), api.Val{})
	switch c.Do {
	case words.Set, words.Push:
		c.V = m.Value(m.Chance.Intn(4))
	case words.Add:
		c.V = Int(int64(m.Chance.Uint64()) >> m.Chance.Intn(64))
	}
	return c
}

// Order is a path, one way round or the other.
func (m Maker) Order() api.Order { return api.Order{Path: m.Path(), Desc: m.Chance.Intn(2) == 0} }

// Stmt is a statement of that collection, with such parts as its verb may have.
func (m Maker) Stmt(coll string) api.Stmt {
	x := api.Stmt{Verb: one(m, Verbs()), Coll: coll}
	switch x.Verb {
	case words.Index, words.Unindex:
		x.Path = m.Path()
	case words.Insert, words.Replace, words.Get:
		x.V = m.Value(m.Chance.Intn(4))
	case words.Find, words.Count, words.Delete, words.Update:
		if m.Chance.Intn(3) > 0 {
			x.Where = m.Cond(m.Chance.Intn(4))
		}
	}
	if x.Verb == words.Update {
		x.Changes = some(m, 1, m.Change)
	}
	if x.Verb == words.Find {
		x.Order = some(m, 0, m.Order)
		x.Limit = one(m, []int{0, 0, 1, api.MaxDocs, -5, math.MaxInt, math.MinInt})
		x.Show = some(m, 0, m.Path)
	}
	return x
}

// one is one of l.
func one[T any](m Maker, l []T) T { return l[m.Chance.Intn(len(l))] }

// some are so many, or one or two more.
func some[T any](m Maker, least int, item func() T) []T {
	var l []T
	for range least + m.Chance.Intn(3) {
		l = append(l, item())
	}
	return l
}
