package lex_test

import (
	"math"
	"math/rand"
	"slices"
	"strings"
	"testing"

	"tidemark/api"
	"tidemark/lex"
	"tidemark/sample"
)

// P14.2: one blank between each two tokens, none ahead and behind.
func TestPrint(t *testing.T) {
	prints(t, "")
	prints(t, "a", word("a"))
	prints(t, "a b", word("a"), word("b"))
	prints(t, "a <= -5", word("a"), sign("<="), number(-5))
	prints(t, `{ "a b" : [ 1 , "" ] }`, sign("{"), quoted("a b"), sign(":"), sign("["), number(1), sign(","), quoted(""), sign("]"), sign("}"))
	prints(t, "a . 1 . b", word("a"), sign("."), number(1), sign("."), word("b"))
	prints(t, "1 2 3", number(1), number(2), number(3))
	for _, s := range signs {
		prints(t, s, sign(s))
		prints(t, s+" "+s, sign(s), sign(s))
	}
	prints(t, strings.Repeat("( ", 9999)+"(", slices.Repeat([]api.Token{sign("(")}, 10000)...)
}

// P14.2: Words of any number of bytes, Numbers in base ten, quoted texts as Quote writes them.
func TestPrintOne(t *testing.T) {
	for _, s := range []string{"a", "Z", "_", "_0", "aZ_9", "null", sample.Letters(25), sample.Letters(9000)} {
		prints(t, s, word(s))
	}
	for n, s := range map[int64]string{0: "0", 1: "1", -1: "-1", 10: "10", -5: "-5", math.MaxInt64: "9223372036854775807", math.MinInt64: "-9223372036854775808"} {
		prints(t, s, number(n))
	}
	for s, q := range map[string]string{"": `""`, "a": `"a"`, "\"\\/": `"\"\\/"`, "\b\f\n\r\t\x00\x7f": `"\b\f\n\r\t\u0000\u007f"`, "\u00e4\ufffd\U0001f600": "\"\u00e4\ufffd\U0001f600\"", "1 ?": `"1 ?"`} {
		prints(t, q, quoted(s))
	}
}

// P14.2: the first End ends what is printed; what stands behind it is passed over, whatever it is.
func TestPrintUpToEnd(t *testing.T) {
	end := api.Token{Kind: api.End}
	prints(t, "", end)
	prints(t, "", end, end)
	prints(t, "", end, word("a"))
	prints(t, "a", word("a"), end)
	prints(t, "a", word("a"), end, word("b"), end)
	prints(t, "a", word("a"), api.Token{Kind: api.End, S: "x", N: 5}, word("b"))
	prints(t, "a 1", word("a"), number(1), at(77, end), api.Token{Kind: -1}, word(""), quoted("\xff"))
}

// P14.2: At is passed over.
func TestPrintAnywhere(t *testing.T) {
	for _, n := range sample.Numbers(1, 77, 8192) {
		prints(t, `a 1 "x" <`, at(n, word("a")), at(n, number(1)), at(n, quoted("x")), at(-n, sign("<")), at(n, api.Token{}))
	}
}

// P14.2: ErrArg of a Kind that is none.
func TestPrintKind(t *testing.T) {
	for _, kind := range sample.Numbers(-1, api.Sign+1, 77, 256, 256+api.Word) {
		if kind >= api.End && kind <= api.Sign {
			continue
		}
		refuses(t, api.ErrArg, api.Token{Kind: kind})
		refuses(t, api.ErrArg, api.Token{Kind: kind, S: "a"})
		refuses(t, api.ErrArg, api.Token{Kind: kind, S: "\xff"})
		refuses(t, api.ErrArg, api.Token{Kind: kind, N: 1})
	}
}

// P14.2: ErrArg of an S that is no Word, no Sign, or stands in a Number.
func TestPrintText(t *testing.T) {
	for _, s := range []string{"", "1", "1a", "0", "-1", " ", " a", "a ", "a b", "a\n", "a-b", "a.b", "-", "\"a\"", "\u00e4", "a\u00e4", "\uff41", "a\xff", "\xff", "a\x00", "\x00", "@", "[", "`", "{", "=", "a/", "a:", "a@", "a[", "a`", "a{", sample.Letters(30) + "?"} {
		refuses(t, api.ErrArg, word(s))
	}
	for _, s := range []string{"", "a", "1", "-", "!", "==", "<>", "<=>", "=<", "=>", "<==", "{}", "()", "..", "? ", "?", " <", "< ", "< =", " ", "=!", "!!", "\"", "\\", "\xff", "\u2264", ";", "+", "*", "/", "<\x00"} {
		refuses(t, api.ErrArg, sign(s))
	}
	for _, s := range []string{"a", "1", "0", "-5", " ", "\x00", "\xff"} {
		for _, n := range []int64{0, 1, -5, math.MinInt64} {
			refuses(t, api.ErrArg, api.Token{Kind: api.Number, S: s, N: n})
		}
	}
}

// P14.2: ErrArg of an N in another than a Number.
func TestPrintNumber(t *testing.T) {
	for _, n := range []int64{1, -1, 256, 1 << 32, math.MaxInt64, math.MinInt64} {
		refuses(t, api.ErrArg, api.Token{Kind: api.Word, S: "a", N: n})
		refuses(t, api.ErrArg, api.Token{Kind: api.Quoted, S: "a", N: n})
		refuses(t, api.ErrArg, api.Token{Kind: api.Quoted, N: n})
		refuses(t, api.ErrArg, api.Token{Kind: api.Sign, S: "<", N: n})
		// Of two errors of one token it is the one that the chapter names first.
		refuses(t, api.ErrArg, api.Token{Kind: api.Quoted, S: "\xff", N: n})
	}
}

// P14.2: ErrText of a Quoted's S that is no UTF-8; of several tokens the first that is refused decides.
func TestPrintFirstFault(t *testing.T) {
	for _, s := range []string{"\xff", "a\xc3", "\x80", "\xed\xa0\x80", "\xc0\x80", "\xf4\x90\x80\x80", "\u00e4\xe2\x82"} {
		refuses(t, api.ErrText, quoted(s))
		for _, bad := range []api.Token{word(""), word("1"), sign("=="), {Kind: 5}, {Kind: api.Number, S: "1"}, {Kind: api.Quoted, N: 1}} {
			printsNone(t, api.ErrText, quoted(s), bad)
			printsNone(t, api.ErrArg, bad, quoted(s))
			printsNone(t, api.ErrText, word("a"), quoted(s), number(1), bad)
			printsNone(t, api.ErrArg, word("a"), bad, number(1), quoted(s))
			printsNone(t, api.ErrText, quoted(s), api.Token{}, bad)
		}
	}
}

// P14.2: tokens by chance, some of them none, held against another hand.
func TestPrintByAnotherHand(t *testing.T) {
	r := rand.New(rand.NewSource(2))
	taken := 0
	for range 100000 {
		l := randoms(r, 6)
		for i := range l {
			l[i].At = r.Intn(100) - 50
			switch r.Intn(40) {
			case 0:
				l[i].Kind = r.Intn(8) - 1
			case 1:
				l[i].S = one(r, "", "a", "1", "<", "<>", "\xff", " ")
			case 2:
				l[i].N = int64(r.Intn(3) - 1)
			}
		}
		want, f := handPrint(l)
		if s, e := lex.Print(l); s != want || e != f {
			t.Fatalf("Print of %v: %q, %d, want %q, %d", l, s, int(e), want, int(f))
		}
		if f == api.OK {
			taken++
		}
	}
	if taken < 20000 || taken > 95000 {
		t.Errorf("%d lists were taken", taken)
	}
}
