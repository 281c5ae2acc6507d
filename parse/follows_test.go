package parse_test

import (
	"math/rand"
	"slices"
	"strings"
	"testing"

	"tidemark/api"
	"tidemark/lex"
	"tidemark/parse"
)

// P15.3: Parse of Print is the statement, and Print of that the same text.
func TestParseOfPrint(t *testing.T) {
	r := rand.New(rand.NewSource(3))
	for range 20000 {
		x := random(r)
		s, e := parse.Print(x)
		y, at, f := parse.Parse(s)
		again, g := parse.Print(y)
		if e != api.OK || f != api.OK || at != 0 || g != api.OK || again != s || show(x) != show(y) {
			t.Fatalf("%q: %s, %d, want %s", s, show(y), int(f), show(x))
		}
	}
}

// P15.3: so of what Parse told, with more parentheses than Print writes, and fields in any order.
func TestPrintOfParse(t *testing.T) {
	for s, want := range map[string]string{
		"find a where x=1 and not(y<2 or z exists)limit 3":                            "find a where x = 1 and not ( y < 2 or z exists ) limit 3",
		"find a where ((x=1 or y=2)) or z=3 and (w=1 and v=2)":                        "find a where ( x = 1 or y = 2 ) or z = 3 and ( w = 1 and v = 2 )",
		"find a where (x=1 and y=2) or z = 3":                                         "find a where x = 1 and y = 2 or z = 3",
		"find a where not (not x exists)":                                             "find a where not not x exists",
		"find a where ((((x exists))))":                                               "find a where x exists",
		"find a limit 0":                                                              "find a",
		`insert a {"b":[1,{}],"a":"x\n"}`:                                             `insert a { "a" : "x\n" , "b" : [ 1 , { } ] }`,
		`get a "\u0061\/"`:                                                            `get a "a/"`,
		"update a set b=null,unset c.0,push d 1,add e -2":                             "update a set b = null , unset c . 0 , push d 1 , add e -2",
		"find a order by x desc,y limit 5 show p,q.r":                                 "find a order by x desc , y limit 5 show p , q . r",
		"delete a where " + strings.Repeat("(", 17) + "x=1" + strings.Repeat(")", 17): "delete a where x = 1",
	} {
		x, _, _ := parse.Parse(s)
		prints(t, x, want)
	}
}

// spaced is the text of the tokens of s with other blanks between: at least as many as there must be.
func spaced(r *rand.Rand, s string) string {
	l, _, _ := lex.Lex(s)
	blanks := func(least int) string {
		b := ""
		for range least + r.Intn(3) {
			b += one(r, " ", "\t", "\n", "\r")
		}
		return b
	}
	out, last := blanks(0), api.End
	for _, t := range l[:len(l)-1] {
		x, _ := lex.Print([]api.Token{t})
		least := 0
		if last == api.Word || last == api.Number || last == api.Sign {
			least = 1
		}
		if t.Kind == api.Quoted || t.Kind == api.Sign && strings.Contains("{}[](),:.", t.S) {
			least = 0
		}
		out, last = out+blanks(least)+x, t.Kind
	}
	return out + blanks(0)
}

// P15.3: blanks change nothing.
func TestBlanks(t *testing.T) {
	r := rand.New(rand.NewSource(4))
	for range 20000 {
		x := random(r)
		s, _ := parse.Print(x)
		parses(t, spaced(r, s), x)
		if t.Failed() {
			return
		}
	}
	for range 5000 {
		c := randomCond(r, 3)
		s, _ := parse.Print(found(c))
		conds(t, strings.TrimPrefix(s, "find a where "), c)
		conds(t, spaced(r, strings.TrimPrefix(s, "find a where ")), c)
		if t.Failed() {
			return
		}
	}
}

// P15.3: blanks change nothing but the place of a fault, which is told at the same token.
func TestBlanksAndFaults(t *testing.T) {
	r := rand.New(rand.NewSource(5))
	for range 10000 {
		s, _ := parse.Print(random(r))
		l, _, _ := lex.Lex(s)
		l[r.Intn(len(l)-1)] = api.Token{Kind: api.Word, S: one(r, words...)}
		s, _ = lex.Print(l)
		_, at, e := parse.Parse(s)
		wide := spaced(r, s)
		_, place, f := parse.Parse(wide)
		if f != e || e != api.OK && tokenAt(s, at) != tokenAt(wide, place) {
			t.Fatalf("%q: %d, %d; %q: %d, %d", s, at, int(e), wide, place, int(f))
		}
	}
}

// tokenAt tells which token of s begins at that place; -1: none does.
func tokenAt(s string, place int) int {
	l, _, _ := lex.Lex(s)
	return slices.IndexFunc(l, func(t api.Token) bool { return t.At == place })
}
