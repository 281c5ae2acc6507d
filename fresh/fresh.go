// Package fresh: values in new memory, so that what is answered shares none with what was handed in.
package fresh

import (
	"strings"

	"tidemark/api"
)

// Value is v in new memory, with the parts that its Kind does not name, too.
func Value(v api.Val) api.Val {
	v.S = strings.Clone(v.S)
	v.L = list(v.L)
	v.F = fields(v.F)
	return v
}

func list(l []api.Val) []api.Val {
	if len(l) == 0 {
		return nil
	}
	m := make([]api.Val, len(l))
	for i, x := range l {
		m[i] = Value(x)
	}
	return m
}

func fields(l []api.Field) []api.Field {
	if len(l) == 0 {
		return nil
	}
	m := make([]api.Field, len(l))
	for i, f := range l {
		m[i] = api.Field{Name: strings.Clone(f.Name), V: Value(f.V)}
	}
	return m
}
