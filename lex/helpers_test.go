package lex_test

import (
	"fmt"
	"math/big"
	"math/rand"
	"regexp"
	"slices"
	"strings"
	"testing"

	"tidemark/api"
	"tidemark/lex"
	"tidemark/sample"
	"tidemark/utf"
)

const blanks = " \t\n\r"

// signs are all Signs there are.
var signs = []string{"{", "}", "[", "]", "(", ")", ",", ":", ".", "=", "!=", "<", "<=", ">", ">="}

// The tokens that tests are made of.
func word(s string) api.Token   { return api.Token{Kind: api.Word, S: s} }
func number(n int64) api.Token  { return api.Token{Kind: api.Number, N: n} }
func quoted(s string) api.Token { return api.Token{Kind: api.Quoted, S: s} }
func sign(s string) api.Token   { return api.Token{Kind: api.Sign, S: s} }

// at is t at that place.
func at(place int, t api.Token) api.Token {
	t.At = place
	return t
}

// nowhere are the tokens of l without their places.
func nowhere(l []api.Token) []api.Token {
	m := slices.Clone(l)
	for i := range m {
		m[i].At = 0
	}
	return m
}

// lexes sees to it that s is a text of these tokens, the End behind them.
func lexes(t *testing.T, s string, want ...api.Token) {
	t.Helper()
	want = append(slices.Clip(want), api.Token{At: len(s)})
	if l, at, e := lex.Lex(s); e != api.OK || at != 0 || !slices.Equal(l, want) {
		t.Errorf("Lex(%.100q): %.300q, %d, %d, want %.300q", s, fmt.Sprint(l), at, int(e), fmt.Sprint(want))
	}
}

// lexesNone sees to it that Lex tells that fault of s.
func lexesNone(t *testing.T, s string, want api.Errno, place int) {
	t.Helper()
	if l, at, e := lex.Lex(s); e != want || at != place || len(l) != 0 {
		t.Errorf("Lex(%.100q): %.300q, %d, %d, want error %d at %d", s, fmt.Sprint(l), at, int(e), int(want), place)
	}
}

// fails sees to it that s has that fault there: by itself, behind others, and ahead of faults further to the right.
func fails(t *testing.T, s string, want api.Errno, place int) {
	t.Helper()
	for _, ahead := range []string{"", " ", "\t\r\n", "{", "!=", "a ", "-5\n", `"\u00e4"`, "\"\u00e4\" ", "find a where x <= "} {
		for _, behind := range []string{"", " ", " ?", "\n01", " 1a", "\t\xff"} {
			lexesNone(t, ahead+s+behind, want, len(ahead)+place)
		}
	}
}

// prints sees to it that Print tells that text of the tokens.
func prints(t *testing.T, want string, l ...api.Token) {
	t.Helper()
	if s, e := lex.Print(l); e != api.OK || s != want {
		t.Errorf("Print of %.300q: %.300q, %d, want %.300q", fmt.Sprint(l), s, int(e), want)
	}
}

// printsNone sees to it that Print tells the error of the tokens.
func printsNone(t *testing.T, want api.Errno, l ...api.Token) {
	t.Helper()
	if s, e := lex.Print(l); e != want || s != "" {
		t.Errorf("Print of %.300q: %.300q, %d, want error %d", fmt.Sprint(l), s, int(e), int(want))
	}
}

// refuses sees to it that Print refuses x, by itself, among others, and ahead of an End, but not behind one.
func refuses(t *testing.T, want api.Errno, x api.Token) {
	t.Helper()
	printsNone(t, want, x)
	printsNone(t, want, word("a"), number(-1), quoted(""), sign("<="), x)
	printsNone(t, want, x, word("a"))
	printsNone(t, want, word("a"), x, api.Token{}, word("b"))
	prints(t, "a", word("a"), api.Token{}, x)
	prints(t, "", api.Token{}, x)
}

// What tokens are made like, by another hand.
var (
	wordForm   = regexp.MustCompile(`\A[A-Za-z_][A-Za-z0-9_]*`)
	numberForm = regexp.MustCompile(`\A-?[0-9]+`)
	noughtForm = regexp.MustCompile(`\A(-?0[0-9]+|-0|-?[0-9]{20,})\z`)
	quotedForm = regexp.MustCompile(`(?s)\A"(?:\\.|[^"\\])*"?`)
	signForm   = regexp.MustCompile(`\A(?:!=|<=|>=|[{}\[\](),:.=<>])`)
)

// handLex is Lex by another hand: what is left of the text is held against patterns.
func handLex(s string) ([]api.Token, int, api.Errno) {
	var l []api.Token
	rest, near := s, false
	for {
		cut := strings.TrimLeft(rest, blanks)
		near = near && cut == rest
		rest = cut
		at := len(s) - len(rest)
		if rest == "" {
			return append(l, api.Token{At: at}), 0, api.OK
		}
		t, n, e := handToken(rest)
		if near && t.Kind != api.Quoted && t.Kind != api.Sign {
			e = api.ErrSyntax
		}
		if e != api.OK {
			return nil, at, e
		}
		t.At = at
		l, rest, near = append(l, t), rest[n:], t.Kind == api.Word || t.Kind == api.Number
	}
}

// handToken is the token at the beginning of s, and how many bytes it has.
func handToken(s string) (api.Token, int, api.Errno) {
	if x := wordForm.FindString(s); x != "" {
		return word(x), len(x), api.OK
	}
	if x := numberForm.FindString(s); x != "" {
		n, _ := new(big.Int).SetString(x, 10)
		if noughtForm.MatchString(x) || !n.IsInt64() {
			return number(0), 0, api.ErrNumber
		}
		return number(n.Int64()), len(x), api.OK
	}
	if x := quotedForm.FindString(s); x != "" {
		text, e := utf.Unquote(x)
		if e == api.ErrForm {
			e = api.ErrSyntax
		}
		return quoted(text), len(x), e
	}
	if x := signForm.FindString(s); x != "" {
		return sign(x), len(x), api.OK
	}
	return api.Token{}, 0, api.ErrSyntax
}

// handPrint is Print by another hand: all texts are looked for first, then joined.
func handPrint(l []api.Token) (string, api.Errno) {
	if i := slices.IndexFunc(l, func(t api.Token) bool { return t.Kind == api.End }); i >= 0 {
		l = l[:i]
	}
	var texts []string
	for _, t := range l {
		x := fmt.Sprint(t.N)
		switch {
		case t.Kind == api.Number && t.S == "":
		case t.Kind == api.Word && t.N == 0 && t.S != "" && wordForm.FindString(t.S) == t.S:
			x = t.S
		case t.Kind == api.Sign && t.N == 0 && slices.Contains(signs, t.S):
			x = t.S
		case t.Kind == api.Quoted && t.N == 0:
			q, e := utf.Quote(t.S)
			if e != api.OK {
				return "", api.ErrText
			}
			x = q
		default:
			return "", api.ErrArg
		}
		texts = append(texts, x)
	}
	return strings.Join(texts, " "), api.OK
}

// byAnotherHand holds Lex against the other hand's, and tells 1 if it took the text.
func byAnotherHand(t *testing.T, s string) int {
	t.Helper()
	l, at, e := handLex(s)
	if e != api.OK {
		lexesNone(t, s, e, at)
		return 0
	}
	lexes(t, s, l[:len(l)-1]...)
	return 1
}

// one is one of l.
func one[T any](r *rand.Rand, l ...T) T { return l[r.Intn(len(l))] }

// random makes a token that Lex could tell, but for its place.
func random(r *rand.Rand) api.Token {
	switch r.Intn(4) {
	case 0:
		return word(one(r, "a", "Z", "_", "find", "where", "a1", "_0", "null", sample.Letters(30)))
	case 1:
		return number(int64(r.Uint64()) >> r.Intn(64))
	case 2:
		return quoted(one(r, "", "a", "\"", "\\", "a b", "\n\x00\x7f", "\u00e4\u20ac\U0001f600\ufffd", "<=", "\\u0041"))
	}
	return sign(one(r, signs...))
}

// randoms makes some tokens.
func randoms(r *rand.Rand, most int) []api.Token {
	var l []api.Token
	for range r.Intn(most + 1) {
		l = append(l, random(r))
	}
	return l
}

// spread is a text of these tokens, with some blanks ahead of each and behind the last, and the tokens at their places there.
func spread(r *rand.Rand, l []api.Token) (string, []api.Token) {
	var b strings.Builder
	gap := func() {
		for range r.Intn(3) {
			b.WriteByte(blanks[r.Intn(len(blanks))])
		}
	}
	var told []api.Token
	for _, t := range l {
		if b.Len() > 0 {
			b.WriteString(one(r, " ", "\t", "\n", "\r"))
		}
		gap()
		told = append(told, at(b.Len(), t))
		x, _ := handPrint([]api.Token{t})
		b.WriteString(x)
	}
	gap()
	return b.String(), told
}
