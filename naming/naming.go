// Package naming: what one step of a path is, a name or a place, what names are made of, and which name a document's id has, for the layers that go by steps or read words.
package naming

import "tidemark/api"

// Id is the name of the field that holds a document's id, and the path to it.
const Id = "id"

// IsName tells whether a step is a name.
func IsName(step string) bool { return len(step) <= api.MaxName && IsWord(step) }

// IsWord tells whether s is made as a name is, of however many bytes.
func IsWord(s string) bool {
	for i, r := range s {
		if !IsLetter(r) && (i == 0 || !IsDigit(r)) {
			return false
		}
	}
	return s != ""
}

// Place tells the number of a step that is a place; false: it is none.
func Place(step string) (int, bool) {
	n := 0
	for _, r := range step {
		if !IsDigit(r) {
			return 0, false
		}
		n = 10*n + int(r-'0')
	}
	if len(step) == 1 || len(step) == 2 && step[0] != '0' {
		return n, true
	}
	return 0, false
}

// IsLetter tells whether a name may begin with r.
func IsLetter(r rune) bool { return 'a' <= r && r <= 'z' || 'A' <= r && r <= 'Z' || r == '_' }

// IsDigit tells whether r is a digit, which a name may have behind its first letter.
func IsDigit(r rune) bool { return '0' <= r && r <= '9' }
