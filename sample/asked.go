package sample

import (
	"tidemark/api"
	"tidemark/words"
)

// Ids are the few ids that a document by chance may have.
func Ids() []api.Val {
	return []api.Val{Int(0), Int(1), Int(2), Int(3), Int(4), Text(""), Text("a"), Text("aa")}
}

// Asked is a statement of that collection by chance that often does something: what it looks for is often what v has, or near that; most often it leaves more than it takes.
func Asked(r Chance, coll string, v api.Val) api.Stmt {
	m := Few(r)
	x := m.Stmt(coll)
	if takes(x) && r.Intn(4) > 0 {
		x = api.Stmt{Verb: words.Insert, Coll: coll}
	}
	switch x.Verb {
	case words.Insert, words.Replace:
		x.V = Document(r)
	case words.Get:
		x.V = one(m, Ids())
	case words.Find, words.Count, words.Delete, words.Update:
		x.Where = Aimed(r, x.Where, v)
	}
	return x
}

// takes tells whether x takes away what many statements have put there.
func takes(x api.Stmt) bool {
	return x.Verb == words.Drop || x.Verb == words.Delete && x.Where.Op == ""
}
