package lex_test

import (
	"math/rand"
	"slices"
	"strings"
	"testing"
	"unsafe"

	"tidemark/api"
	"tidemark/lex"
	"tidemark/sample"
)

// R4: a list that is handed in stays as it is, spare room too.
func TestListsStay(t *testing.T) {
	for _, l := range [][]api.Token{
		{word("a"), number(-5), quoted("x\n"), sign("<="), word("mark"), {}},
		{word("a"), {}, at(7, word("b")), {Kind: 9}, word("mark"), {}},
		{word("a"), quoted("\xff"), word(""), sign("?"), word("mark"), {}},
	} {
		was := slices.Clone(l)
		lex.Print(l[:4])
		lex.Print(l[:0])
		if !slices.Equal(l, was) {
			t.Errorf("%v was changed to %v", was, l)
		}
	}
}

// R4: tokens that were told hang no more on the text they were read of.
func TestTokensKeepNoText(t *testing.T) {
	const s = `find abc where xyz <= -50 and "long \n enough" != "plain one" (name.10)`
	b := []byte(s)
	l, _, e := lex.Lex(unsafe.String(&b[0], len(b)))
	clear(b)
	if e != api.OK {
		t.Fatalf("Lex: %d", int(e))
	}
	lexes(t, s, l[:len(l)-1]...)
}

// R4: a text that was told hangs no more on the tokens it was printed of.
func TestTextKeepsNoTokens(t *testing.T) {
	for _, kind := range []int{api.Word, api.Sign, api.Quoted} {
		b := []byte("<=")
		if kind != api.Sign {
			b = []byte("abc")
		}
		l := []api.Token{{Kind: kind, S: unsafe.String(&b[0], len(b))}}
		s, _ := lex.Print(l)
		was := strings.Clone(s)
		clear(b)
		clear(l)
		if s != was || len(s) < 2 {
			t.Errorf("%q was changed to %q", was, s)
		}
	}
}

// R4: each answer is a list of its own, spare room too.
func TestAnswersAreNew(t *testing.T) {
	for _, s := range []string{"", "a", "a <= 1", "a b c d e f g h i", strings.Repeat("a \"b\" ", 30)} {
		a, _, _ := lex.Lex(s)
		b, _, _ := lex.Lex(s)
		want := slices.Clone(b)
		for i := range a[:cap(a)] {
			a[:cap(a)][i] = api.Token{Kind: 77, S: "mark"}
		}
		c, _, _ := lex.Lex(s)
		if !slices.Equal(b, want) || !slices.Equal(c, want) {
			t.Errorf("%q: %v, %v, want %v", s, b, c, want)
		}
	}
}

// R1, R2, R5: whatever bytes: each call ends, tells nothing beside an error, and tells it again; what was told of another text between changes nothing.
func TestAnyBytes(t *testing.T) {
	r := rand.New(rand.NewSource(7))
	const likely = "{}[](),:.=!<>- \n\t0123456789abZ_\"\"\\u"
	for range 50000 {
		s := sample.AnyText(r, likely, 40, 40)
		l, at, e := lex.Lex(s)
		lex.Lex(`a "b" ?`)
		m, again, f := lex.Lex(s)
		if !slices.Equal(l, m) || at != again || e != f {
			t.Fatalf("%q: %v, %d, %d, then %v, %d, %d", s, l, at, int(e), m, again, int(f))
		}
		if e != api.OK && (len(l) != 0 || at < 0 || at >= len(s)) || e == api.OK && at != 0 {
			t.Fatalf("%q: %v, %d, %d", s, l, at, int(e))
		}
		byAnotherHand(t, s)
	}
}

// R2: a field that a token's kind does not name is zero.
func TestFieldsAreZero(t *testing.T) {
	l, _, _ := lex.Lex(`a 5 "5" <= -7`)
	for _, x := range l {
		if x.Kind != api.Number && x.N != 0 || (x.Kind == api.Number || x.Kind == api.End) && x.S != "" {
			t.Errorf("%v", x)
		}
	}
	if last := l[len(l)-1]; len(l) != 6 || last != (api.Token{Kind: api.End, At: 13}) {
		t.Errorf("%v", l)
	}
}
