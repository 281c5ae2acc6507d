package eval

import (
	"slices"

	"tidemark/api"
	"tidemark/check"
	"tidemark/path"
)

// row is a document with what its place in an order hangs on.
type row struct {
	doc, id api.Val
	found   []found // where each Order's Path leads
}

// found is a value, if there is one.
type found struct {
	v     api.Val
	there bool
}

// compare tells which of two rows is ahead: below 0, if a is.
type compare func(a, b row) int

// sorted are the documents l in order. They share what they hold with l.
func sorted(l []api.Val, o []api.Order) []api.Val {
	var rows []row
	for _, doc := range l {
		rows = append(rows, rowOf(doc, o))
	}
	slices.SortStableFunc(rows, inOrder(o))
	var told []api.Val
	for _, r := range rows {
		told = append(told, r.doc)
	}
	return told
}

func rowOf(doc api.Val, o []api.Order) row {
	id, _ := check.Id(doc)
	r := row{doc: doc, id: id}
	for _, by := range o {
		v, there := path.Get(doc, by.Path)
		r.found = append(r.found, found{v, there})
	}
	return r
}

// inOrder compares by each of o, then by ids.
func inOrder(o []api.Order) compare {
	var l []compare
	for i, by := range o {
		one := byFound(i)
		if by.Desc {
			one = turned(one)
		}
		l = append(l, one)
	}
	return inTurn(append(l, byId))
}

// byFound compares by where the Path of that Order leads.
func byFound(i int) compare {
	return func(a, b row) int { return orderOfFound(a.found[i], b.found[i]) }
}

func byId(a, b row) int { return order(a.id, b.id) }

// turned compares the other way round.
func turned(c compare) compare {
	return func(a, b row) int { return c(b, a) }
}

// inTurn compares by the first of l that tells rows apart.
func inTurn(l []compare) compare {
	return func(a, b row) int {
		for _, c := range l {
			if n := c(a, b); n != 0 {
				return n
			}
		}
		return 0
	}
}

func orderOfFound(a, b found) int {
	switch {
	case a.there && b.there:
		return order(a.v, b.v)
	case a.there:
		return 1
	case b.there:
		return -1
	}
	return 0
}
