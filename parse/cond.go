package parse

import (
	"tidemark/api"
	"tidemark/words"
)

// maxWithin is how many `(` and `not` one of these may stand within.
const maxWithin = 16

// cond reads a condition.
func (r *reader) cond() api.Cond { return r.joined(words.Or, r.and) }

func (r *reader) and() api.Cond { return r.joined(words.And, r.not) }

// joined reads conditions with that word between; one that stands by itself is joined to nothing.
func (r *reader) joined(op string, part func() api.Cond) api.Cond {
	l := row(r, words.Word(op), part)
	if len(l) == 1 {
		return l[0]
	}
	return api.Cond{Op: op, L: l}
}

func (r *reader) not() api.Cond {
	switch {
	case r.sees(words.Word(words.Not)):
		return api.Cond{Op: words.Not, L: []api.Cond{r.inside(r.not)}}
	case r.sees(words.Sign("(")):
		c := r.inside(r.cond)
		r.need(words.Sign(")"))
		return c
	}
	return r.test()
}

// inside passes over the next token, and reads what stands within it.
func (r *reader) inside(part func() api.Cond) api.Cond {
	t := r.next()
	if r.within > maxWithin {
		panic(fault{t.At, api.ErrDeep})
	}
	r.take(t.Kind)
	r.within++
	c := part()
	r.within--
	return c
}

func (r *reader) test() api.Cond {
	c := api.Cond{Path: r.path()}
	switch {
	case r.skip(words.Word(words.Exists)):
		c.Op = words.Exists
		return c
	case r.skip(words.Word(words.In)):
		c.Op = words.In
	default:
		c.Op = r.pick(api.Sign, "=", "!=", "<", "<=", ">", ">=")
	}
	c.V = r.value()
	return c
}
