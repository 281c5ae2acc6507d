package eval

import (
	"tidemark/api"
	"tidemark/fresh"
	"tidemark/path"
	"tidemark/words"
)

// deed is what one change does to a document.
type deed func(doc api.Val) (api.Val, api.Errno)

// deedsOf are what the changes l do; false: one's Do is none.
func deedsOf(l []api.Change) ([]deed, bool) {
	var deeds []deed
	for _, c := range l {
		do, ok := deedOf(c)
		if !ok {
			return nil, false
		}
		deeds = append(deeds, do)
	}
	return deeds, true
}

func deedOf(c api.Change) (deed, bool) {
	switch c.Do {
	case words.Set:
		return func(doc api.Val) (api.Val, api.Errno) { return path.Set(doc, c.Path, c.V) }, true
	case words.Unset:
		return func(doc api.Val) (api.Val, api.Errno) { return path.Unset(doc, c.Path) }, true
	case words.Push:
		return func(doc api.Val) (api.Val, api.Errno) { return path.Push(doc, c.Path, c.V) }, true
	case words.Add:
		return func(doc api.Val) (api.Val, api.Errno) { return path.Add(doc, c.Path, c.V.N) }, true
	}
	return nil, false
}

// changed is doc as the deeds l leave it, in new memory.
func changed(doc api.Val, l []deed) (api.Val, api.Errno) {
	doc = fresh.Value(doc)
	for _, do := range l {
		told, e := do(doc)
		if e != api.OK {
			return api.Val{}, e
		}
		doc = told
	}
	return doc, api.OK
}
