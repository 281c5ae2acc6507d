// Package same: whether two values, two conditions or two statements are the same, nil and an empty list being one.
package same

import (
	"slices"

	"tidemark/api"
)

// Stmt tells whether the statements x and y are the same.
func Stmt(x, y api.Stmt) bool {
	return x.Verb == y.Verb && x.Coll == y.Coll && x.Path == y.Path && Value(x.V, y.V) &&
		Cond(x.Where, y.Where) && slices.Equal(x.Order, y.Order) && x.Limit == y.Limit && slices.Equal(x.Show, y.Show) &&
		slices.EqualFunc(x.Changes, y.Changes, sameChange)
}

// Cond tells whether the conditions x and y are the same.
func Cond(x, y api.Cond) bool {
	return x.Op == y.Op && x.Path == y.Path && Value(x.V, y.V) && slices.EqualFunc(x.L, y.L, Cond)
}

func sameChange(x, y api.Change) bool {
	return x.Do == y.Do && x.Path == y.Path && Value(x.V, y.V)
}

// Value tells whether the values x and y are the same, good or not.
func Value(x, y api.Val) bool {
	return x.Kind == y.Kind && x.N == y.N && x.S == y.S && slices.EqualFunc(x.L, y.L, Value) && slices.EqualFunc(x.F, y.F, sameField)
}

func sameField(x, y api.Field) bool { return x.Name == y.Name && Value(x.V, y.V) }
