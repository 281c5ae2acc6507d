package value

import (
	"slices"
	"strings"

	"tidemark/api"
	"tidemark/fresh"
)

// Find tells the value of v's field of that name.
func Find(v api.Val, name string) (api.Val, bool) {
	if v.Kind != api.Doc {
		return api.Val{}, false
	}
	// v need not be good, so its names need not rise: no halving here.
	for _, f := range v.F {
		if f.Name == name {
			return fresh.Value(f.V), true
		}
	}
	return api.Val{}, false
}

// Make tells the Doc of the fields l.
func Make(l []api.Field) (api.Val, api.Errno) {
	fields := slices.Clone(l)
	slices.SortFunc(fields, func(a, b api.Field) int { return strings.Compare(a.Name, b.Name) })
	for i := 1; i < len(fields); i++ {
		if fields[i-1].Name == fields[i].Name {
			return api.Val{}, api.ErrDup
		}
	}
	d := api.Val{Kind: api.Doc, F: fields}
	if e := Good(d); e != api.OK {
		return api.Val{}, e
	}
	return fresh.Value(d), api.OK
}
