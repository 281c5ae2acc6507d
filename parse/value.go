package parse

import (
	"slices"
	"strings"

	"tidemark/api"
	"tidemark/value"
	"tidemark/words"
)

// value reads a value that stands in no other one. Whether it is good is known at its end, but told at its beginning.
func (r *reader) value() api.Val {
	first := r.next()
	v := r.part()
	if e := value.Good(v); e != api.OK {
		panic(fault{first.At, e})
	}
	return v
}

// part reads a value, good or not.
func (r *reader) part() api.Val {
	switch t := r.next(); t.Kind {
	case api.Number:
		return api.Val{Kind: api.Int, N: r.take(t.Kind).N}
	case api.Quoted:
		return api.Val{Kind: api.Text, S: r.take(t.Kind).S}
	}
	switch {
	case r.skip(words.Word(words.Null)):
		return api.Val{Kind: api.Null}
	case r.skip(words.Word(words.False)):
		return api.Val{Kind: api.Bool}
	case r.skip(words.Word(words.True)):
		return api.Val{Kind: api.Bool, N: 1}
	case r.skip(words.Sign("[")):
		return api.Val{Kind: api.List, L: parts(r, r.part, "]")}
	case r.skip(words.Sign("{")):
		return api.Val{Kind: api.Doc, F: r.fields()}
	}
	panic(wrong(r.next()))
}

// parts reads what stands in a List or a Doc, and its end.
func parts[T any](r *reader, part func() T, end string) []T {
	if r.skip(words.Sign(end)) {
		return nil
	}
	l := row(r, words.Sign(","), part)
	r.need(words.Sign(end))
	return l
}

// fields reads a Doc's fields, which stand there in any order, and its end.
func (r *reader) fields() []api.Field {
	var names []string
	l := parts(r, func() api.Field {
		t := r.take(api.Quoted)
		// Only what stands before `:` is a name, and may be one that was there.
		r.need(words.Sign(":"))
		if slices.Contains(names, t.S) {
			panic(fault{t.At, api.ErrDup})
		}
		names = append(names, t.S)
		return api.Field{Name: t.S, V: r.part()}
	}, "}")
	slices.SortFunc(l, func(a, b api.Field) int { return strings.Compare(a.Name, b.Name) })
	return l
}
