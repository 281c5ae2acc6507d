// Package same: whether a statement or a condition is one that was read of a text, for the layers that ask whether a text tells it.
package same

import (
	"slices"

	"tidemark/api"
	"tidemark/value"
)

// Stmt tells whether x is the statement y that was read.
func Stmt(x, y api.Stmt) bool {
	return x.Verb == y.Verb && x.Coll == y.Coll && x.Path == y.Path && sameValue(x.V, y.V) &&
		Cond(x.Where, y.Where) && slices.Equal(x.Order, y.Order) && x.Limit == y.Limit && slices.Equal(x.Show, y.Show) &&
		slices.EqualFunc(x.Changes, y.Changes, sameChange)
}

// Cond tells whether x is the condition y that was read, or none, as y is.
func Cond(x, y api.Cond) bool {
	return x.Op == y.Op && x.Path == y.Path && sameValue(x.V, y.V) && slices.EqualFunc(x.L, y.L, Cond)
}

func sameChange(x, y api.Change) bool {
	return x.Do == y.Do && x.Path == y.Path && sameValue(x.V, y.V)
}

func sameValue(x, y api.Val) bool {
	if y.Kind == 0 {
		return x.Kind == 0 && x.N == 0 && x.S == "" && len(x.L) == 0 && len(x.F) == 0
	}
	// What was read is good; of another one Compare tells the error.
	n, e := value.Compare(x, y)
	return n == 0 && e == api.OK
}
