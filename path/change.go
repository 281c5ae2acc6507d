package path

import (
	"slices"
	"strings"

	"tidemark/api"
	"tidemark/naming"
)

// lead tells where the steps lead from v; false: nowhere.
func lead(v api.Val, steps []string) (api.Val, bool) {
	for _, step := range steps {
		at, there, e := find(v, step)
		if e != api.OK || !there {
			return api.Val{}, false
		}
		v = part(v, at)
	}
	return v, true
}

// put is v with the values more in the place of what stands where the steps lead: one, or none, by which it is taken out. Docs that are missing on the way are made. What stays is shared with v.
func put(v api.Val, steps []string, more ...api.Val) (api.Val, api.Errno) {
	at, there, e := find(v, steps[0])
	if e != api.OK {
		return api.Val{}, e
	}
	gone := 0
	inner := api.Val{Kind: api.Doc}
	if there {
		gone, inner = 1, part(v, at)
	}
	if len(steps) > 1 {
		inner, e = put(inner, steps[1:], more...)
		if e != api.OK {
			return api.Val{}, e
		}
		more = []api.Val{inner}
	}
	if v.Kind == api.Doc {
		v.F = changed(v.F, at, gone, named(steps[0], more)...)
	} else {
		v.L = changed(v.L, at, gone, more...)
	}
	return v, api.OK
}

// find tells which of v's parts a step leads to; if it names a field that is not there, which it would be.
func find(v api.Val, step string) (at int, there bool, e api.Errno) {
	if naming.IsName(step) {
		if v.Kind != api.Doc {
			return 0, false, api.ErrKind
		}
		at, there = slices.BinarySearchFunc(v.F, step, func(f api.Field, name string) int { return strings.Compare(f.Name, name) })
		return at, there, api.OK
	}
	if v.Kind != api.List {
		return 0, false, api.ErrKind
	}
	at, _ = naming.Place(step)
	if at >= len(v.L) {
		return 0, false, api.ErrName
	}
	return at, true, api.OK
}

// part is that part of a Doc or a List.
func part(v api.Val, at int) api.Val {
	if v.Kind == api.Doc {
		return v.F[at].V
	}
	return v.L[at]
}

// named are fields of that name, one for each value.
func named(name string, l []api.Val) []api.Field {
	var fields []api.Field
	for _, v := range l {
		fields = append(fields, api.Field{Name: name, V: v})
	}
	return fields
}

// changed is a copy of l with more in the place of those from at on that are gone.
func changed[T any](l []T, at, gone int, more ...T) []T {
	m := make([]T, len(l)-gone+len(more))
	copy(m, l[:at])
	copy(m[at:], more)
	copy(m[at+len(more):], l[at+gone:])
	return m
}
