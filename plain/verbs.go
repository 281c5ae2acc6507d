package plain

import (
	"slices"

	"tidemark/api"
	"tidemark/check"
	"tidemark/eval"
	"tidemark/fresh"
	"tidemark/words"
)

// verb is what the statements that begin with one word do: to a collection that is there, or to one that is not; the other way round they are refused.
type verb struct {
	makes bool
	do    deed
}

// deed is what a statement does to collections, of which its own is at that place, or belongs there. It leaves the lists that it is handed as they are.
type deed func(colls []api.Coll, at int, x api.Stmt) ([]api.Coll, api.Reply)

// verbs are all words that a statement may begin with.
func verbs() map[string]verb {
	return map[string]verb{
		words.Make:    {makes: true, do: makeColl},
		words.Drop:    {do: dropColl},
		words.Index:   {do: within(index)},
		words.Unindex: {do: within(unindex)},
		words.Insert:  {do: within(insert)},
		words.Replace: {do: within(replace)},
		words.Get:     {do: within(get)},
		words.Find:    {do: within(find)},
		words.Count:   {do: within(count)},
		words.Update:  {do: within(update)},
		words.Delete:  {do: within(remove)},
	}
}

// done tells what the statement x makes of these collections, and its reply.
func done(colls []api.Coll, x api.Stmt) ([]api.Coll, api.Reply) {
	if e := check.Stmt(x); e != api.OK {
		return nil, refused(e)
	}
	v, is := verbs()[x.Verb]
	if !is {
		return nil, refused(api.ErrArg)
	}
	at, there := placeOf(colls, x.Coll)
	switch {
	case v.makes && there:
		return nil, refused(api.ErrThere)
	case !v.makes && !there:
		return nil, refused(api.ErrName)
	}
	return v.do(colls, at, x)
}

// refused is the reply of a statement that changes nothing.
func refused(e api.Errno) api.Reply { return api.Reply{E: e} }

func makeColl(colls []api.Coll, at int, x api.Stmt) ([]api.Coll, api.Reply) {
	if len(colls) >= api.MaxColls {
		return nil, refused(api.ErrLimit)
	}
	return with(colls, at, api.Coll{Name: x.Coll}), api.Reply{}
}

func dropColl(colls []api.Coll, at int, _ api.Stmt) ([]api.Coll, api.Reply) {
	return without(colls, at), api.Reply{}
}

// within is the deed of what a statement does to one collection alone.
func within(do func(c api.Coll, x api.Stmt) (api.Coll, api.Reply)) deed {
	return func(colls []api.Coll, at int, x api.Stmt) ([]api.Coll, api.Reply) {
		c, r := do(colls[at], x)
		return instead(colls, at, c), r
	}
}

func index(c api.Coll, x api.Stmt) (api.Coll, api.Reply) {
	at, there := slices.BinarySearch(c.Indexes, x.Path)
	if there {
		return c, refused(api.ErrThere)
	}
	if len(c.Indexes) >= api.MaxIndexes {
		return c, refused(api.ErrLimit)
	}
	c.Indexes = with(c.Indexes, at, x.Path)
	return c, api.Reply{}
}

func unindex(c api.Coll, x api.Stmt) (api.Coll, api.Reply) {
	at, there := slices.BinarySearch(c.Indexes, x.Path)
	if !there {
		return c, refused(api.ErrName)
	}
	c.Indexes = without(c.Indexes, at)
	return c, api.Reply{}
}

func insert(c api.Coll, x api.Stmt) (api.Coll, api.Reply) {
	at, there := placeById(c.Docs, idOf(x.V))
	if there {
		return c, refused(api.ErrThere)
	}
	c.Docs = with(c.Docs, at, x.V)
	return c, api.Reply{}
}

func replace(c api.Coll, x api.Stmt) (api.Coll, api.Reply) {
	at, there := placeById(c.Docs, idOf(x.V))
	if !there {
		return c, refused(api.ErrEnd)
	}
	c.Docs = instead(c.Docs, at, x.V)
	return c, api.Reply{}
}

func get(c api.Coll, x api.Stmt) (api.Coll, api.Reply) {
	at, there := placeById(c.Docs, x.V)
	if !there {
		return c, refused(api.ErrEnd)
	}
	return c, api.Reply{Docs: []api.Val{fresh.Value(c.Docs[at])}}
}

func find(c api.Coll, x api.Stmt) (api.Coll, api.Reply) {
	docs, e := eval.Find(c.Docs, x)
	if e != api.OK {
		return c, refused(e)
	}
	return c, api.Reply{N: len(docs), Docs: docs}
}

func count(c api.Coll, x api.Stmt) (api.Coll, api.Reply) {
	places, e := matched(c.Docs, x.Where)
	if e != api.OK {
		return c, refused(e)
	}
	return c, api.Reply{N: len(places)}
}

func update(c api.Coll, x api.Stmt) (api.Coll, api.Reply) {
	places, e := matched(c.Docs, x.Where)
	if e != api.OK {
		return c, refused(e)
	}
	docs := slices.Clone(c.Docs)
	for _, at := range places {
		if docs[at], e = eval.Apply(docs[at], x.Changes); e != api.OK {
			return c, refused(e)
		}
	}
	c.Docs = docs
	return c, api.Reply{N: len(places)}
}

func remove(c api.Coll, x api.Stmt) (api.Coll, api.Reply) {
	places, e := matched(c.Docs, x.Where)
	if e != api.OK {
		return c, refused(e)
	}
	var docs []api.Val
	next := 0
	for _, at := range places {
		docs = append(docs, c.Docs[next:at]...)
		next = at + 1
	}
	c.Docs = append(docs, c.Docs[next:]...)
	return c, api.Reply{N: len(places)}
}

// matched tells the places of the documents of which the condition holds.
func matched(docs []api.Val, where api.Cond) ([]int, api.Errno) {
	// What is no condition is refused where there are no documents, too: so that the error hangs on the statement alone.
	if _, e := eval.Holds(where, api.Val{Kind: api.Null}); e != api.OK {
		return nil, e
	}
	var places []int
	for at, doc := range docs {
		holds, e := eval.Holds(where, doc)
		if e != api.OK {
			return nil, e
		}
		if holds {
			places = append(places, at)
		}
	}
	return places, api.OK
}
