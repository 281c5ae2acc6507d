package lex_test

import (
	"math/rand"
	"slices"
	"strings"
	"testing"

	"tidemark/api"
	"tidemark/lex"
)

// back sees to it that Lex of Print tells the same tokens, but for At.
func back(t *testing.T, l []api.Token) {
	t.Helper()
	s, e := lex.Print(l)
	if e != api.OK {
		t.Errorf("Print of %v: %d", l, int(e))
		return
	}
	m, at, e := lex.Lex(s)
	if e != api.OK || at != 0 || !slices.Equal(nowhere(m), append(nowhere(l), api.Token{})) {
		t.Errorf("Lex(%q): %v, %d, %d, want %v", s, m, at, int(e), l)
	}
}

// P14.3: Lex of Print tells the same tokens: each by itself, each two, and many by chance.
func TestLexOfPrint(t *testing.T) {
	back(t, nil)
	some := []api.Token{word("a"), word("_1"), number(0), number(-1), number(12), quoted(""), quoted("a\"\\\n\x00"), quoted("\u00e4 1")}
	for _, s := range signs {
		some = append(some, sign(s))
	}
	for _, a := range some {
		back(t, []api.Token{a})
		for _, b := range some {
			back(t, []api.Token{at(9, a), at(-3, b)})
		}
	}
	r := rand.New(rand.NewSource(3))
	for range 20000 {
		back(t, randoms(r, 20))
		if t.Failed() {
			return
		}
	}
}

// P14.3: Print of what Lex told is a text of the same tokens, and of that text it is the same.
func TestPrintOfLex(t *testing.T) {
	r := rand.New(rand.NewSource(4))
	for range 20000 {
		s, _ := spread(r, randoms(r, 12))
		l, _, _ := lex.Lex(s)
		p, e := lex.Print(l)
		m, _, f := lex.Lex(p)
		q, g := lex.Print(m)
		if e != api.OK || f != api.OK || g != api.OK || p != q || !slices.Equal(nowhere(l), nowhere(m)) {
			t.Fatalf("%q: %q, %q", s, p, q)
		}
	}
}

// P14.3: blanks as one likes between tokens.
func TestSpread(t *testing.T) {
	r := rand.New(rand.NewSource(5))
	for range 20000 {
		s, want := spread(r, randoms(r, 12))
		lexes(t, s, want...)
		if t.Failed() {
			return
		}
	}
}

// P14.3: blanks more, ahead of some tokens of a text in which they stand close, change nothing but At.
func TestMoreBlanks(t *testing.T) {
	r := rand.New(rand.NewSource(6))
	parts := append(slices.Clone(signs), "a", "b1", "7", "-7", `"x"`, `"\n"`, " ", "\n")
	taken := 0
	for range 50000 {
		s := ""
		for range r.Intn(10) {
			s += one(r, parts...)
		}
		l, _, e := lex.Lex(s)
		if e != api.OK {
			continue
		}
		taken++
		for i := len(l) - 1; i >= 0; i-- {
			more := strings.Repeat(one(r, " ", "\t", "\n", "\r"), r.Intn(3))
			s = s[:l[i].At] + more + s[l[i].At:]
			for k := i; k < len(l); k++ {
				l[k].At += len(more)
			}
		}
		lexes(t, s, l[:len(l)-1]...)
		if t.Failed() {
			return
		}
	}
	if taken < 10000 {
		t.Errorf("%d texts were taken", taken)
	}
}
