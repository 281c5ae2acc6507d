package lex

import (
	"strconv"
	"strings"

	"tidemark/api"
	"tidemark/naming"
	"tidemark/quoted"
	"tidemark/utf"
)

// token tells the token with which s begins, r being its first character, and how many bytes it has there. Where a blank is missing ahead of it, it may be no Word and no Number.
func token(s string, r rune, missing bool) (t api.Token, n int, e api.Errno) {
	switch {
	case naming.IsLetter(r):
		goto word
	case naming.IsDigit(r) || r == '-':
		goto number
	case r == '"':
		goto quote
	}
	n = sign(s)
	if n == 0 {
		goto none
	}
	t = api.Token{Kind: api.Sign, S: strings.Clone(s[:n])}
	goto told
quote:
	t.Kind = api.Quoted
	t.S, n, e = quoted.Take(s)
	goto told
number:
	n = 1 + row(s[1:], naming.IsDigit)
	if s[:n] == "-" {
		goto none
	}
	t.Kind = api.Number
	t.N, e = numberOf(s[:n])
	goto apart
word:
	n = row(s, inWord)
	t = api.Token{Kind: api.Word, S: strings.Clone(s[:n])}
apart:
	// Both faults of a number stand at its first byte: this one goes ahead.
	if missing {
		goto none
	}
told:
	return t, n, e
none:
	return api.Token{}, 0, api.ErrSyntax
}

// row tells how many bytes at the beginning of s are such characters.
func row(s string, such func(rune) bool) int {
	for i, r := range s {
		if !such(r) {
			return i
		}
	}
	return len(s)
}

// inWord tells whether r may stand in a Word behind its first letter.
func inWord(r rune) bool { return naming.IsLetter(r) || naming.IsDigit(r) }

// numberOf reads digits, or `-` and digits.
func numberOf(s string) (int64, api.Errno) {
	n, err := strconv.ParseInt(s, 10, 64)
	// With noughts ahead, or as -0, a number has another text than it is told by.
	if err != nil || strconv.FormatInt(n, 10) != s {
		return 0, api.ErrNumber
	}
	return n, api.OK
}

// sign tells how many bytes the longest Sign has with which s begins; 0: there is none.
func sign(s string) int {
	for _, x := range [...]string{"!=", "<=", ">=", "{", "}", "[", "]", "(", ")", ",", ":", ".", "=", "<", ">"} {
		if strings.HasPrefix(s, x) {
			return len(x)
		}
	}
	return 0
}

// text tells the text of a token that is no End.
func text(t api.Token) (string, api.Errno) {
	if t.Kind == api.Number && t.S == "" {
		return strconv.FormatInt(t.N, 10), api.OK
	}
	if t.N != 0 {
		return "", api.ErrArg
	}
	switch t.Kind {
	case api.Word:
		if naming.IsWord(t.S) {
			return t.S, api.OK
		}
	case api.Quoted:
		return utf.Quote(t.S)
	case api.Sign:
		if n := sign(t.S); n > 0 && n == len(t.S) {
			return t.S, api.OK
		}
	}
	return "", api.ErrArg
}
