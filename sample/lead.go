package sample

import (
	"slices"
	"strconv"
	"strings"

	"tidemark/api"
)

// Lead is path.Get by another hand, of good values and of paths; no path leads nowhere.
func Lead(v api.Val, p string) (api.Val, bool) {
	if p == "" {
		return api.Val{}, false
	}
	for _, step := range strings.Split(p, ".") {
		at := -1
		if n, e := strconv.Atoi(step); e == nil && v.Kind == api.List && n < len(v.L) {
			v = v.L[n]
			continue
		}
		if v.Kind == api.Doc && (step[0] < '0' || step[0] > '9') {
			at = slices.IndexFunc(v.F, func(f api.Field) bool { return f.Name == step })
		}
		if at < 0 {
			return api.Val{}, false
		}
		v = v.F[at].V
	}
	return v, true
}
