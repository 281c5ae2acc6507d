// Package utf: texts as runes: see DOC.md, chapter 1.
package utf

import (
	"strings"
	"unicode/utf8"

	"tidemark/api"
)

// Valid tells whether s is UTF-8.
func Valid(s string) bool {
	for i, r := range s {
		if broken(s, i, r) {
			return false
		}
	}
	return true
}

// Count tells how many characters s has.
func Count(s string) (int, api.Errno) {
	n := 0
	for i, r := range s {
		if broken(s, i, r) {
			return 0, api.ErrText
		}
		n++
	}
	return n, api.OK
}

// Runes tells the characters of s.
func Runes(s string) ([]rune, api.Errno) {
	n, e := Count(s)
	if e != api.OK {
		return nil, e
	}
	l := make([]rune, 0, n)
	for _, r := range s {
		l = append(l, r)
	}
	return l, api.OK
}

// Text writes the characters l as UTF-8.
func Text(l []rune) (string, api.Errno) {
	var b strings.Builder
	for _, r := range l {
		if !utf8.ValidRune(r) {
			return "", api.ErrText
		}
		b.WriteRune(r)
	}
	return b.String(), api.OK
}

// Compare tells which of a and b is ahead, character by character.
func Compare(a, b string) (int, api.Errno) {
	if !Valid(a) || !Valid(b) {
		return 0, api.ErrText
	}
	// UTF-8 is made so that its bytes go as its characters do.
	return strings.Compare(a, b), api.OK
}

// Cut tells the characters of s from from on, up to the one ahead of to.
func Cut(s string, from, to int) (string, api.Errno) {
	n, e := Count(s)
	if e != api.OK {
		return "", e
	}
	if from < 0 || from > to || to > n {
		return "", api.ErrArg
	}
	// A slice of s would keep all of s alive.
	return strings.Clone(s[place(s, from):place(s, to)]), api.OK
}

// place tells at which byte the character of that number begins; behind the last one it is the end.
func place(s string, number int) int {
	for i := range s {
		if number == 0 {
			return i
		}
		number--
	}
	return len(s)
}

// broken tells whether no character begins at a byte of s that a range told as r: a range tells such a byte as FFFD, which is a character, too.
func broken(s string, at int, r rune) bool {
	return r == utf8.RuneError && !strings.HasPrefix(s[at:], "\ufffd")
}
