package plain

import (
	"cmp"
	"slices"
	"strings"

	"tidemark/api"
	"tidemark/fresh"
	"tidemark/naming"
	"tidemark/value"
)

// placeOf tells where among rising collections the one of that name is; false: where it belongs.
func placeOf(colls []api.Coll, name string) (int, bool) {
	return slices.BinarySearchFunc(colls, name, func(c api.Coll, name string) int { return strings.Compare(c.Name, name) })
}

// placeById tells where among rising documents the one of that id is; false: where it belongs.
func placeById(docs []api.Val, id api.Val) (int, bool) {
	return slices.BinarySearchFunc(docs, id, func(doc, id api.Val) int { return order(idOf(doc), id) })
}

// idOf tells the id of the document v, good or not.
func idOf(v api.Val) api.Val {
	id, _ := value.Find(v, naming.Id)
	return id
}

// order is the order of ids, as that of values has it: they need not be good ones, as check.Stmt does not ask for it.
func order(a, b api.Val) int {
	return cmp.Or(cmp.Compare(a.Kind, b.Kind), cmp.Compare(a.N, b.N), strings.Compare(a.S, b.S))
}

// with is l with x put in at that place, without is l but for what is there, instead has x in its place: all in new memory.
func with[T any](l []T, at int, x T) []T { return slices.Concat(l[:at], []T{x}, l[at:]) }

func without[T any](l []T, at int) []T { return slices.Concat(l[:at], l[at+1:]) }

func instead[T any](l []T, at int, x T) []T { return slices.Concat(l[:at], []T{x}, l[at+1:]) }

// copyOf is the state of these collections in new memory.
func copyOf(colls []api.Coll) api.State {
	var s api.State
	for _, c := range colls {
		c.Name = strings.Clone(c.Name)
		c.Docs = copies(c.Docs)
		c.Indexes = slices.Clone(c.Indexes)
		for i, p := range c.Indexes {
			c.Indexes[i] = strings.Clone(p)
		}
		s.Colls = append(s.Colls, c)
	}
	return s
}

// copies are these values in new memory.
func copies(l []api.Val) []api.Val {
	var told []api.Val
	for _, v := range l {
		told = append(told, fresh.Value(v))
	}
	return told
}
