package plan

import (
	"iter"

	"tidemark/api"
	"tidemark/words"
)

// needed are the needed tests of the condition c: without each of them c does not hold.
func needed(c api.Cond) iter.Seq[api.Cond] {
	return func(yield func(api.Cond) bool) { toldAll(c, yield) }
}

// toldAll hands the needed tests of c to yield, one by one, and tells whether it took them all.
func toldAll(c api.Cond, yield func(api.Cond) bool) bool {
	switch c.Op {
	case words.And:
		for _, part := range c.L {
			if !toldAll(part, yield) {
				return false
			}
		}
		return true
	case "", words.Or, words.Not:
		return true
	}
	return yield(c)
}

// spansOf are the ranges of the paths of which the needed tests of c have some.
func spansOf(c api.Cond) map[string]span {
	spans := map[string]span{}
	for t := range needed(c) {
		if s, ok := spanOf(t); ok {
			spans[t.Path] = spans[t.Path].within(s)
		}
	}
	return spans
}
