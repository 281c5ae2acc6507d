package check

import (
	"slices"

	"tidemark/api"
	"tidemark/naming"
	"tidemark/path"
	"tidemark/value"
	"tidemark/words"
)

// rule is what no statement that makes sense breaks, and the error of one that does.
type rule struct {
	broken func(x api.Stmt) bool
	e      api.Errno
}

// How much there may be.
const (
	maxIdBytes = 64
	maxOrders  = 4
	maxShows   = 8
	maxChanges = 8
)

// idOf tells the id of the document v, good or not; false: it has none.
func idOf(v api.Val) (api.Val, bool) {
	id, ok := value.Find(v, naming.Id)
	if !ok || !isId(id) {
		return api.Val{}, false
	}
	return id, true
}

// isId tells whether v, good or not, is an id.
func isId(v api.Val) bool {
	return v.Kind == api.Int || v.Kind == api.Text && len(v.S) <= maxIdBytes
}

// puts tells whether x puts a document into its collection.
func puts(x api.Stmt) bool { return x.Verb == words.Insert || x.Verb == words.Replace }

func putsNoDoc(x api.Stmt) bool { return puts(x) && x.V.Kind != api.Doc }

func putsNoId(x api.Stmt) bool {
	if !puts(x) {
		return false
	}
	_, ok := idOf(x.V)
	return !ok
}

func getsNoId(x api.Stmt) bool { return x.Verb == words.Get && !isId(x.V) }

func indexesId(x api.Stmt) bool {
	return (x.Verb == words.Index || x.Verb == words.Unindex) && Touches(x.Path, naming.Id)
}

func limitsBeyond(x api.Stmt) bool { return x.Limit < 0 || x.Limit > api.MaxDocs }

func looksInNoList(x api.Stmt) bool { return inNoList(x.Where) }

// inNoList tells whether there is an `in` without a List in c, or in a part of it, whatever c itself is.
func inNoList(c api.Cond) bool {
	return c.Op == words.In && c.V.Kind != api.List || slices.ContainsFunc(c.L, inNoList)
}

func ordersTooMuch(x api.Stmt) bool { return len(x.Order) > maxOrders }

func ordersTwice(x api.Stmt) bool {
	return anyTwo(x.Order, func(a, b api.Order) bool { return a.Path == b.Path })
}

func showsTooMuch(x api.Stmt) bool { return len(x.Show) > maxShows }

func showsNoNames(x api.Stmt) bool {
	return slices.ContainsFunc(x.Show, func(p string) bool { return !hasNamesAlone(p) })
}

func showsTwice(x api.Stmt) bool { return anyTwo(x.Show, Touches) }

func changesTooMuch(x api.Stmt) bool { return len(x.Changes) > maxChanges }

func changesId(x api.Stmt) bool {
	return slices.ContainsFunc(x.Changes, func(c api.Change) bool { return Touches(c.Path, naming.Id) })
}

func changesTwice(x api.Stmt) bool {
	return anyTwo(x.Changes, func(a, b api.Change) bool { return Touches(a.Path, b.Path) })
}

// hasNamesAlone tells whether p is a path without a step that is a place.
func hasNamesAlone(p string) bool {
	steps, e := path.Steps(p)
	return e == api.OK && !slices.ContainsFunc(steps, func(s string) bool { return !naming.IsName(s) })
}

// anyTwo tells whether two of l, at different places, meet.
func anyTwo[T any](l []T, meet func(a, b T) bool) bool {
	for i, a := range l {
		for _, b := range l[i+1:] {
			if meet(a, b) {
				return true
			}
		}
	}
	return false
}
