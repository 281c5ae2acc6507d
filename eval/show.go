package eval

import (
	"tidemark/api"
	"tidemark/fresh"
	"tidemark/path"
)

// shown is what is shown of the good Doc doc, in new memory.
func shown(doc api.Val, paths []string) (api.Val, api.Errno) {
	if len(paths) == 0 {
		return fresh.Value(doc), api.OK
	}
	told := api.Val{Kind: api.Doc}
	for _, p := range paths {
		v, there := path.Get(doc, p)
		if !there {
			continue
		}
		more, e := path.Set(told, p, v)
		if e != api.OK {
			return api.Val{}, e
		}
		told = more
	}
	return told, api.OK
}
