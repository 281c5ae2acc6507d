package lex_test

import (
	"math"
	"math/rand"
	"strings"
	"testing"

	"tidemark/api"
	"tidemark/sample"
)

// The chapter's examples.
func TestExamples(t *testing.T) {
	lexes(t, "a<=-5", at(0, word("a")), at(1, sign("<=")), at(3, number(-5)))
	lexesNone(t, "1a", api.ErrSyntax, 1)
	lexesNone(t, "01", api.ErrNumber, 0)
	lexesNone(t, "\"a", api.ErrSyntax, 0)
	lexesNone(t, "a ? b", api.ErrSyntax, 2)
	lexes(t, "a.1", at(0, word("a")), at(1, sign(".")), at(2, number(1)))
}

// P14.1: a text of MaxText bytes is taken, whatever it is made of; one more, and it is not looked at.
func TestBig(t *testing.T) {
	const most = 8192
	lexes(t, strings.Repeat(" ", most))
	lexes(t, sample.Letters(most), word(sample.Letters(most)))
	lexes(t, `"`+sample.Letters(most-2)+`"`, quoted(sample.Letters(most-2)))
	lexes(t, strings.Repeat(" ", most-1)+"7", at(most-1, number(7)))
	var many []api.Token
	for i := range most {
		many = append(many, at(i, sign("(")))
	}
	lexes(t, strings.Repeat("(", most), many...)
	lexesNone(t, sample.Letters(most-1)+"?", api.ErrSyntax, most-1)
	lexesNone(t, strings.Repeat("7", most), api.ErrNumber, 0)
	for _, s := range []string{" ", "a", "?", "(", "\"", "7", "\xff", "\u00e4", "\\", "\x00"} {
		for _, n := range []int{most + 1, most + 2, 1 << 20} {
			lexesNone(t, strings.Repeat(s, n), api.ErrBig, 0)
		}
	}
	lexesNone(t, strings.Repeat("\u00e4", most/2), api.ErrSyntax, 0)
	lexes(t, `"`+strings.Repeat("\u00e4", most/2-1)+`"`, quoted(strings.Repeat("\u00e4", most/2-1)))
	lexesNone(t, `"`+strings.Repeat("\u00e4", most/2)+`"`, api.ErrBig, 0)
}

// P14.1: Words.
func TestWords(t *testing.T) {
	for _, s := range []string{"a", "z", "A", "Z", "_", "m", "__", "_0", "a0", "a9", "aZ_9", "null", "true", "find", "e5", "x0x0", sample.Letters(24), sample.Letters(25), sample.Letters(500), "_" + strings.Repeat("9", 100)} {
		lexes(t, s, word(s))
		lexes(t, " "+s+"\n"+s, at(1, word(s)), at(2+len(s), word(s)))
		lexes(t, "("+s+"."+s+")", sign("("), at(1, word(s)), at(1+len(s), sign(".")), at(2+len(s), word(s)), at(2+2*len(s), sign(")")))
	}
}

// P14.1: Numbers, both limits too, and those that may not be.
func TestNumbers(t *testing.T) {
	for s, n := range map[string]int64{
		"0": 0, "1": 1, "9": 9, "10": 10, "-1": -1, "-9": -9, "-10": -10, "100": 100, "1234567890": 1234567890,
		"999999999999999999": 999999999999999999, "1000000000000000000": 1000000000000000000, "-1000000000000000000": -1000000000000000000,
		"9223372036854775807": math.MaxInt64, "9223372036854775806": math.MaxInt64 - 1, "-9223372036854775808": math.MinInt64, "-9223372036854775807": math.MinInt64 + 1,
	} {
		lexes(t, s, number(n))
		lexes(t, "\t"+s+" ", at(1, number(n)))
		lexes(t, "<"+s+"<=", sign("<"), at(1, number(n)), at(1+len(s), sign("<=")))
		lexes(t, s+"."+s, number(n), at(len(s), sign(".")), at(len(s)+1, number(n)))
		fails(t, s+"a", api.ErrSyntax, len(s))
		fails(t, s+"_1", api.ErrSyntax, len(s))
		fails(t, s+"-1", api.ErrSyntax, len(s))
	}
	for _, s := range []string{
		"00", "01", "09", "000", "007", "-0", "-00", "-01", "00000000000000000000", "01234567890123456789",
		"9223372036854775808", "9223372036854775809", "9999999999999999999", "-9223372036854775809", "-9223372036854775810", "-9999999999999999999",
		"10000000000000000000", "18446744073709551615", "18446744073709551616", "18446744073709551617", "99999999999999999999", "-10000000000000000000", "-18446744073709551617", strings.Repeat("1", 400), "-" + strings.Repeat("8", 400),
	} {
		fails(t, s, api.ErrNumber, 0)
		fails(t, s+"a", api.ErrNumber, 0)
		fails(t, s+"-1", api.ErrNumber, 0)
		fails(t, s+".5", api.ErrNumber, 0)
		fails(t, s+`"x`, api.ErrNumber, 0)
	}
	for _, s := range []string{"-", "- 1", "--1", "-a", "-_", "-.5", "-\"1\"", "-=", "+1", "-\u0661", "-\xff"} {
		fails(t, s, api.ErrSyntax, 0)
	}
	lexes(t, "1.5", number(1), at(1, sign(".")), at(2, number(5)))
	lexes(t, "0.0", number(0), at(1, sign(".")), at(2, number(0)))
	fails(t, "1e5", api.ErrSyntax, 1)
	fails(t, "0x1", api.ErrSyntax, 1)
	fails(t, "1_000", api.ErrSyntax, 1)
	fails(t, "1.05", api.ErrNumber, 2)
	fails(t, "1.00", api.ErrNumber, 2)
	fails(t, "a.01", api.ErrNumber, 2)
}

// P14.1: a Word or Number right behind one; that goes ahead of the number's own fault, which stands at the same byte.
func TestRightBehind(t *testing.T) {
	fails(t, "a-1", api.ErrSyntax, 1)
	fails(t, "a1-1", api.ErrSyntax, 2)
	fails(t, "1-1", api.ErrSyntax, 1)
	fails(t, "-1-1", api.ErrSyntax, 2)
	fails(t, "12ab 01", api.ErrSyntax, 2)
	fails(t, "1_", api.ErrSyntax, 1)
	for _, n := range []string{"-0", "-01", "-00", "-9223372036854775809", "-99999999999999999999"} {
		fails(t, "a"+n, api.ErrSyntax, 1)
		fails(t, "7"+n, api.ErrSyntax, 1)
		fails(t, "a "+n, api.ErrNumber, 2)
		fails(t, "7\r"+n, api.ErrNumber, 2)
	}
	fails(t, "a-", api.ErrSyntax, 1)
	fails(t, "1-", api.ErrSyntax, 1)
	fails(t, "01a", api.ErrNumber, 0)
	for _, b := range []string{" ", "\t", "\n", "\r", "  ", "\r\n"} {
		lexes(t, "a"+b+"-1", word("a"), at(1+len(b), number(-1)))
		lexes(t, "1"+b+"-1", number(1), at(1+len(b), number(-1)))
		lexes(t, "1"+b+"a", number(1), at(1+len(b), word("a")))
		lexes(t, "a"+b+"1", word("a"), at(1+len(b), number(1)))
		lexes(t, "a"+b+"b", word("a"), at(1+len(b), word("b")))
	}
	lexes(t, "a1", word("a1"))
	lexes(t, "a,-1", word("a"), at(1, sign(",")), at(2, number(-1)))
	lexes(t, "1,a", number(1), at(1, sign(",")), at(2, word("a")))
}

// P14.1: quoted texts, also right behind and ahead of others.
func TestQuoted(t *testing.T) {
	for q, s := range map[string]string{
		`""`: "", `"a"`: "a", `" "`: " ", `"a b"`: "a b", `"\""`: `"`, `"\\"`: `\`, `"\\\""`: `\"`, `"\/\b\f\n\r\t"`: "/\b\f\n\r\t", `"\u0041\u00E4\u00e4"`: "A\u00e4\u00e4",
		`"\ud83d\ude00"`: "\U0001f600", "\"\u00e4\u20ac\U0001f600\ufffd\x7f\"": "\u00e4\u20ac\U0001f600\ufffd\x7f", `"1a 01 ?"`: "1a 01 ?", `"'"`: "'", `"<="`: "<=",
	} {
		n := len(q)
		lexes(t, q, quoted(s))
		lexes(t, " "+q+" ", at(1, quoted(s)))
		lexes(t, "a"+q+"b", word("a"), at(1, quoted(s)), at(1+n, word("b")))
		lexes(t, "1"+q+"2", number(1), at(1, quoted(s)), at(1+n, number(2)))
		lexes(t, "1"+q+"-2", number(1), at(1, quoted(s)), at(1+n, number(-2)))
		lexes(t, q+q, quoted(s), at(n, quoted(s)))
		lexes(t, q+q+"\t"+q, quoted(s), at(n, quoted(s)), at(2*n+1, quoted(s)))
		lexes(t, "{"+q+":"+q+"}", sign("{"), at(1, quoted(s)), at(1+n, sign(":")), at(2+n, quoted(s)), at(2+2*n, sign("}")))
		fails(t, q+"?", api.ErrSyntax, n)
		fails(t, q+"01", api.ErrNumber, n)
		fails(t, q+"a-1", api.ErrSyntax, n+1)
	}
}

// P14.1: what is no quoted text is ErrSyntax, what is no character ErrText, both at its first byte; the first of them in the text is told, as Unquote does.
func TestQuotedFaults(t *testing.T) {
	form := []string{`"`, `"a`, `"\"`, `"\`, `"\\\"`, `"\q"`, `"\u12"`, `"\u00g0"`, `"\U0041"`, `"\'"`, "\"a\nb\"", "\"\t\"", "\"\x00\"", "\"\x1f\"", "\"\\\xff\"", "\"\\\u00e4\"", "\"\\q\xff\"", `"\q\ud800"`, "\"\n\xff\""}
	half := []string{"\"\xff\"", "\"a\xc3\"", "\"\x80\"", "\"\xed\xa0\x80\"", "\"\xc0\x80\"", "\"\xf4\x90\x80\x80\"", "\"\xe2\x82\"", `"\ud800"`, `"\udc00"`, `"\ud83d\u0041"`, `"\ud83dx"`, `"\ude00\ud83d"`, "\"\xff\n\"", "\"\xff\\q\"", `"\ud800\q"`, "\"\xff", `"\ud83d`}
	for want, l := range map[api.Errno][]string{api.ErrSyntax: form, api.ErrText: half} {
		for _, s := range l {
			fails(t, s, want, 0)
			fails(t, "a"+s, want, 1)
			fails(t, "-1"+s, want, 2)
			fails(t, `"x"`+s, want, 3)
		}
	}
}

// P14.1: each Sign, and each right behind each: the longest that can be.
func TestSigns(t *testing.T) {
	for _, a := range signs {
		lexes(t, a, sign(a))
		lexes(t, "a"+a+"a", word("a"), at(1, sign(a)), at(1+len(a), word("a")))
		lexes(t, "1"+a+"-1", number(1), at(1, sign(a)), at(1+len(a), number(-1)))
		lexes(t, `""`+a+`""`, quoted(""), at(2, sign(a)), at(2+len(a), quoted("")))
		fails(t, a+"?", api.ErrSyntax, len(a))
		fails(t, a+"!", api.ErrSyntax, len(a))
		for _, b := range signs {
			lexes(t, a+" "+b, sign(a), at(len(a)+1, sign(b)))
			if a != "<" && a != ">" || b != "=" {
				lexes(t, a+b, sign(a), at(len(a), sign(b)))
			}
		}
	}
	lexes(t, "<==", sign("<="), at(2, sign("=")))
	lexes(t, "<<=", sign("<"), at(1, sign("<=")))
	lexes(t, ">>=>", sign(">"), at(1, sign(">=")), at(3, sign(">")))
	lexes(t, "!==", sign("!="), at(2, sign("=")))
	lexes(t, "=!=", sign("="), at(1, sign("!=")))
	lexes(t, "=<", sign("="), at(1, sign("<")))
	lexes(t, "< =", sign("<"), at(2, sign("=")))
	for _, s := range []string{"!", "! =", "!!=", "!a", "!<", "!\n="} {
		fails(t, s, api.ErrSyntax, 0)
	}
}

// P14.1: all four blanks, none and many, at the beginning, between and at the end; no other byte is one.
func TestBlanks(t *testing.T) {
	lexes(t, "")
	for _, b := range []string{" ", "\t", "\n", "\r", blanks, strings.Repeat(blanks, 100)} {
		n := len(b)
		lexes(t, b)
		lexes(t, b+"a", at(n, word("a")))
		lexes(t, "a"+b, word("a"))
		lexes(t, b+"a"+b+"-1"+b+`"x y"`+b+"<="+b, at(n, word("a")), at(2*n+1, number(-1)), at(3*n+3, quoted("x y")), at(4*n+8, sign("<=")))
	}
	for _, s := range []string{"\v", "\f", "\x00", "\x01", "\x1f", "\x7f", "\b", "\u00a0", "\u0085", "\u2028", "\u3000", "\ufeff", "\u200b"} {
		fails(t, s, api.ErrSyntax, 0)
		fails(t, "a"+s, api.ErrSyntax, 1)
		fails(t, "a "+s+" b", api.ErrSyntax, 2)
	}
}

// P14.1: each byte and each character as the first one: what begins no token is ErrSyntax there, UTF-8 or not.
func TestEachCharacter(t *testing.T) {
	const letters, digits = "abcdefghijklmnopqrstuvwxyzABCDEFGHIJKLMNOPQRSTUVWXYZ_", "0123456789"
	try := func(c string) {
		t.Helper()
		switch {
		case strings.Contains(blanks, c):
			lexes(t, c)
			lexes(t, "a"+c+"a", word("a"), at(2, word("a")))
		case strings.Contains(letters, c):
			lexes(t, c, word(c))
			lexes(t, "a"+c+"a", word("a"+c+"a"))
			lexesNone(t, "1"+c, api.ErrSyntax, 1)
		case strings.Contains(digits, c):
			lexes(t, c, number(int64(c[0]-'0')))
			lexes(t, "a"+c+"a", word("a"+c+"a"))
			lexes(t, "1"+c, number(10+int64(c[0]-'0')))
		case strings.Contains("{}[](),:.=<>", c):
			lexes(t, c, sign(c))
			lexes(t, "a"+c+"a", word("a"), at(1, sign(c)), at(2, word("a")))
		default:
			lexesNone(t, c, api.ErrSyntax, 0)
			lexesNone(t, "a"+c+"a", api.ErrSyntax, 1)
			lexesNone(t, "1 "+c, api.ErrSyntax, 2)
			lexesNone(t, "<"+c+" 01", api.ErrSyntax, 1)
		}
	}
	for b := range 256 {
		try(string([]byte{byte(b)}))
	}
	for r := rune(128); r < 0x3000; r++ {
		try(string(r))
	}
	for _, r := range []rune{0xff10, 0xff21, 0xff5b, 0xfffd, 0xfeff, 0x1d7ce, 0x1f600, 0x10ffff} {
		try(string(r))
	}
}

// P14.1: of two faults the one further to the left, whichever they are.
func TestFirstFault(t *testing.T) {
	faults := []struct {
		s     string
		e     api.Errno
		place int
	}{
		{"?", api.ErrSyntax, 0}, {"!", api.ErrSyntax, 0}, {"-", api.ErrSyntax, 0}, {"\xff", api.ErrSyntax, 0}, {"1a", api.ErrSyntax, 1}, {"a-1", api.ErrSyntax, 1},
		{`"\q"`, api.ErrSyntax, 0}, {"\"\n\"", api.ErrSyntax, 0}, {"\"\xff\"", api.ErrText, 0}, {`"\ud800"`, api.ErrText, 0},
		{"01", api.ErrNumber, 0}, {"-0", api.ErrNumber, 0}, {"9223372036854775808", api.ErrNumber, 0},
	}
	for _, a := range faults {
		for _, b := range faults {
			for _, gap := range []string{" ", ",", " x = "} {
				fails(t, a.s+gap+b.s, a.e, a.place)
				fails(t, "ok"+gap+a.s+gap+b.s, a.e, 2+len(gap)+a.place)
			}
		}
		fails(t, a.s+` "open`, a.e, a.place)
	}
}

// P14.1: every text of two bytes, and every short one of likely parts, held against another hand.
func TestShortTexts(t *testing.T) {
	for a := range 256 {
		for b := range 256 {
			byAnotherHand(t, string([]byte{byte(a), byte(b)}))
		}
	}
	parts := []string{"a", "0", "1", "-", `"`, `\`, "<", "=", " ", "!", "\xff"}
	var all func(s string, n int)
	all = func(s string, n int) {
		byAnotherHand(t, s)
		if n == 0 || t.Failed() {
			return
		}
		for _, p := range parts {
			all(s+p, n-1)
		}
	}
	all("", 5)
}

// P14.1: texts that chance puts together, held against another hand.
func TestByAnotherHand(t *testing.T) {
	r := rand.New(rand.NewSource(1))
	parts := []string{" ", " ", " ", "\n", "\t", "\r", "a", "find", "_9", "0", "1", "-", "-5", "10", "9223372036854775807", "9223372036854775808", "-9223372036854775808", "{", "}", "[", "]", "(", ")", ",", ":", ".", "=", "!=", "<", "<=", ">", ">=", `"a"`, `""`, `"\u0061"`, `"\n"`, "\"\u00e4\""}
	rare := []string{"!", "?", `"`, `\`, "\u00e4", "\xff", `"\ud83d"`, `"\q"`, "00", "-0", "\x00", "99999999999999999999"}
	taken := 0
	for range 200000 {
		s := ""
		for range r.Intn(12) {
			s += one(r, parts...)
			if r.Intn(3) == 0 {
				s += " "
			}
			if r.Intn(20) == 0 {
				s += one(r, rare...)
			}
		}
		taken += byAnotherHand(t, s)
		if t.Failed() {
			return
		}
	}
	if taken < 20000 || taken > 180000 {
		t.Errorf("%d texts were taken", taken)
	}
}
