package eval

import (
	"slices"

	"tidemark/api"
	"tidemark/check"
	"tidemark/parse"
	"tidemark/path"
	"tidemark/same"
	"tidemark/value"
	"tidemark/wording"
	"tidemark/words"
)

// isCond tells whether c is a condition that makes sense, or none.
func isCond(c api.Cond) bool {
	if same.Cond(c, api.Cond{}) {
		return true
	}
	// A whole statement with c in it may be too long where c's own text is not: so that parse.Print can't be asked.
	told, _, e := parse.Cond(wording.Cond(c))
	if e != api.OK || !same.Cond(c, told) {
		return false
	}
	return check.Stmt(api.Stmt{Verb: words.Find, Where: c}) == api.OK
}

// holds tells whether the condition c holds of the good value doc.
func holds(c api.Cond, doc api.Val) bool {
	switch c.Op {
	case "":
		return true
	case words.Or:
		return slices.ContainsFunc(c.L, func(part api.Cond) bool { return holds(part, doc) })
	case words.And:
		return !slices.ContainsFunc(c.L, func(part api.Cond) bool { return !holds(part, doc) })
	case words.Not:
		return !holds(c.L[0], doc)
	}
	v, there := path.Get(doc, c.Path)
	if c.Op == "!=" {
		return !there || !alike(v, c.V)
	}
	return there && passes(v, c)
}

// passes tells whether v, to which the Path of the test c leads, passes it.
func passes(v api.Val, c api.Cond) bool {
	ofKind := v.Kind == c.V.Kind
	switch c.Op {
	case words.Exists:
		return true
	case words.In:
		return slices.ContainsFunc(c.V.L, func(x api.Val) bool { return alike(v, x) })
	case "=":
		return alike(v, c.V)
	case "<":
		return ofKind && order(v, c.V) < 0
	case "<=":
		return ofKind && order(v, c.V) <= 0
	case ">":
		return ofKind && order(v, c.V) > 0
	case ">=":
		return ofKind && order(v, c.V) >= 0
	}
	return false
}

// order tells which of the good values a and b is ahead.
func order(a, b api.Val) int {
	n, _ := value.Compare(a, b)
	return n
}

// alike tells whether the good values a and b are the same.
func alike(a, b api.Val) bool { return order(a, b) == 0 }
