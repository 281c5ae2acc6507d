// Package naming: what one step of a path is, a name or a place, for the layers that go by steps.
package naming

import "tidemark/api"

// IsName tells whether a step is a name.
func IsName(step string) bool {
	for i, r := range step {
		if !isLetter(r) && (i == 0 || !isDigit(r)) {
			return false
		}
	}
	return step != "" && len(step) <= api.MaxName
}

// Place tells the number of a step that is a place; false: it is none.
func Place(step string) (int, bool) {
	n := 0
	for _, r := range step {
		if !isDigit(r) {
			return 0, false
		}
		n = 10*n + int(r-'0')
	}
	if len(step) == 1 || len(step) == 2 && step[0] != '0' {
		return n, true
	}
	return 0, false
}

// isLetter tells whether a name may begin with r.
func isLetter(r rune) bool { return 'a' <= r && r <= 'z' || 'A' <= r && r <= 'Z' || r == '_' }

func isDigit(r rune) bool { return '0' <= r && r <= '9' }
