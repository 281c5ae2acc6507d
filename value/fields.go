package value

import (
	"slices"
	"strings"

	"tidemark/api"
)

// Find tells the value of v's field of that name.
func Find(v api.Val, name string) (api.Val, bool) {
	if v.Kind != api.Doc {
		return api.Val{}, false
	}
	// v need not be good, so its names need not rise: no halving here.
	for _, f := range v.F {
		if f.Name == name {
			return fresh(f.V), true
		}
	}
	return api.Val{}, false
}

// Make tells the Doc of the fields l.
func Make(l []api.Field) (api.Val, api.Errno) {
	fields := slices.Clone(l)
	slices.SortFunc(fields, func(a, b api.Field) int { return strings.Compare(a.Name, b.Name) })
	for i := 1; i < len(fields); i++ {
		if fields[i-1].Name == fields[i].Name {
			return api.Val{}, api.ErrDup
		}
	}
	d := api.Val{Kind: api.Doc, F: fields}
	if e := Good(d); e != api.OK {
		return api.Val{}, e
	}
	return fresh(d), api.OK
}

// fresh is v in new memory, with the parts that its Kind does not name, too.
func fresh(v api.Val) api.Val {
	v.S = strings.Clone(v.S)
	v.L = freshList(v.L)
	v.F = freshFields(v.F)
	return v
}

func freshList(l []api.Val) []api.Val {
	if len(l) == 0 {
		return nil
	}
	m := make([]api.Val, len(l))
	for i, x := range l {
		m[i] = fresh(x)
	}
	return m
}

func freshFields(l []api.Field) []api.Field {
	if len(l) == 0 {
		return nil
	}
	m := make([]api.Field, len(l))
	for i, f := range l {
		m[i] = api.Field{Name: strings.Clone(f.Name), V: fresh(f.V)}
	}
	return m
}
