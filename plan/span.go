package plan

import (
	"bytes"

	"tidemark/api"
	"tidemark/key"
)

// span is a range of keys: from low on, below high (empty: no bound).
type span struct {
	low, high []byte
	tests     int  // of how many tests it comes
	isClose   bool // one of these is `=`
}

// How much a range helps, from least to most.
const (
	isNone = iota
	isThere
	isTwoSided
	isClose
)

// rank tells which of these s is.
func (s span) rank() int {
	switch {
	case s.isClose:
		return isClose
	case s.tests > 1:
		return isTwoSided
	case s.tests == 1:
		return isThere
	}
	return isNone
}

// has tells whether the key k lies in s.
func (s span) has(k []byte) bool {
	return bytes.Compare(s.low, k) <= 0 && (len(s.high) == 0 || bytes.Compare(k, s.high) < 0)
}

// within is what lies in s and in t, which has both bounds.
func (s span) within(t span) span {
	if bytes.Compare(s.low, t.low) < 0 {
		s.low = t.low
	}
	if len(s.high) == 0 || bytes.Compare(t.high, s.high) < 0 {
		s.high = t.high
	}
	s.tests += t.tests
	s.isClose = s.isClose || t.isClose
	return s
}

// spanOf is the range of the test t; false: it has none.
func spanOf(t api.Cond) (span, bool) {
	first, next := []byte{byte(10 * t.V.Kind)}, []byte{byte(10*t.V.Kind + 1)}
	k, _ := key.Of(t.V)
	after, _ := key.After(k)
	s := span{tests: 1}
	switch t.Op {
	case "=":
		s.low, s.high, s.isClose = k, after, true
	case "<":
		s.low, s.high = first, k
	case "<=":
		s.low, s.high = first, after
	case ">":
		s.low, s.high = after, next
	case ">=":
		s.low, s.high = k, next
	default:
		return span{}, false
	}
	return s, true
}
