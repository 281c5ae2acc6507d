package utf_test

import (
	"fmt"
	"math/rand"
	"regexp"
	"strconv"
	"strings"
	"testing"

	"tidemark/api"
	"tidemark/utf"
)

func unquotes(t *testing.T, s, want string, e api.Errno) {
	t.Helper()
	if x, f := utf.Unquote(s); x != want || f != e {
		t.Errorf("Unquote(%q): %q, %d, want %q, %d", s, x, int(f), want, int(e))
	}
}

// quoted tells the part that stands for a character, as the chapter has it.
func quoted(r rune) string {
	if s, ok := map[rune]string{'"': `\"`, '\\': `\\`, 8: `\b`, 12: `\f`, 10: `\n`, 13: `\r`, 9: `\t`}[r]; ok {
		return s
	}
	if r < 32 || r == 127 {
		return fmt.Sprintf(`\u%04x`, r)
	}
	return string(r)
}

// P1.2, P1.4: every character by itself, and back.
func TestQuoteOfEveryCharacter(t *testing.T) {
	for r := rune(0); r <= 0x10ffff && !t.Failed(); r++ {
		if fewest(r) == 0 {
			continue
		}
		s := string(r)
		want := `"` + quoted(r) + `"`
		q, e := utf.Quote(s)
		if q != want || e != api.OK {
			t.Errorf("Quote(%q): %s, %d, want %s", s, q, int(e), want)
		}
		unquotes(t, q, s, api.OK)
	}
}

// P1.2
func TestQuote(t *testing.T) {
	for _, c := range [][2]string{
		{"", `""`},
		{"a\"b\\c", `"a\"b\\c"`},
		{"\b\f\n\r\t", `"\b\f\n\r\t"`},
		{"\x00\x01\x0b\x0e\x1f\x7f", `"\u0000\u0001\u000b\u000e\u001f\u007f"`},
		{"/ ~", `"/ ~"`},
		{"\u0080\u2028\ufffd\U0010ffff", "\"\u0080\u2028\ufffd\U0010ffff\""},
	} {
		if q, e := utf.Quote(c[0]); q != c[1] || e != api.OK {
			t.Errorf("Quote(%q): %s, %d, want %s", c[0], q, int(e), c[1])
		}
	}
	for _, b := range badTexts {
		for _, s := range []string{b.s, "a\n" + b.s, b.s + "\""} {
			if q, e := utf.Quote(s); q != "" || e != api.ErrText {
				t.Errorf("Quote(%q): %s, %d", s, q, int(e))
			}
		}
	}
}

// P1.2: a byte behind `\`: the eight of the chapter make a part of two bytes, no other does.
func TestUnquoteOfLetters(t *testing.T) {
	want := map[byte]string{'"': "\"", '\\': "\\", '/': "/", 'b': "\b", 'f': "\f", 'n': "\n", 'r': "\r", 't': "\t"}
	for b := range 256 {
		part := `\` + string([]byte{byte(b)})
		if x, ok := want[byte(b)]; ok {
			unquotes(t, `"`+part+`"`, x, api.OK)
			unquotes(t, `"a`+part+part+`b"`, "a"+x+x+"b", api.OK)
		} else {
			unquotes(t, `"`+part+`"`, "", api.ErrForm)
			unquotes(t, `"a`+part+`b"`, "", api.ErrForm)
		}
	}
	unquotes(t, `"\U00e4"`, "", api.ErrForm)
	unquotes(t, `"\x41"`, "", api.ErrForm)
}

// P1.2: a byte by itself: those below 32, `"` and `\` are no part, those from 128 on no character.
func TestUnquoteOfBytes(t *testing.T) {
	for b := range 256 {
		s := string([]byte{byte(b)})
		switch {
		case b < 32 || b == '"' || b == '\\':
			unquotes(t, `"`+s+`"`, "", api.ErrForm)
		case b < 128:
			unquotes(t, `"`+s+`"`, s, api.OK)
		default:
			unquotes(t, `"`+s+`"`, "", api.ErrText)
		}
	}
}

// P1.2: every `\u`, by small and by great letters; a half alone is none.
func TestUnquoteOfEveryNumber(t *testing.T) {
	for r := rune(0); r <= 0xffff; r++ {
		small, great := fmt.Sprintf(`"\u%04x"`, r), fmt.Sprintf(`"\u%04X"`, r)
		if fewest(r) == 0 {
			unquotes(t, small, "", api.ErrText)
			unquotes(t, great, "", api.ErrText)
		} else {
			unquotes(t, small, string(r), api.OK)
			unquotes(t, great, string(r), api.OK)
		}
	}
	unquotes(t, `"\uaBcD\u00E4"`, "\uabcd\u00e4", api.OK)
}

// P1.2: every character above FFFF by its two halves.
func TestUnquoteOfEveryPair(t *testing.T) {
	for r := rune(0x10000); r <= 0x10ffff && !t.Failed(); r++ {
		high, low := 0xd800+(r-0x10000)/0x400, 0xdc00+(r-0x10000)%0x400
		unquotes(t, `"\u`+strconv.FormatInt(int64(high), 16)+`\u`+strconv.FormatInt(int64(low), 16)+`"`, string(r), api.OK)
	}
	unquotes(t, `"\uD83D\uDE00"`, "\U0001f600", api.OK)
	unquotes(t, `"a\ud83d\uDE00\uD83d\ude00z"`, "a\U0001f600\U0001f600z", api.OK)
}

// P1.2: a half without the other one.
func TestUnquoteOfHalves(t *testing.T) {
	behind := []string{``, `x`, `"`, `\n`, `\"`, `\`, `\u`, `\ude0`, `\uzzzz`, `\u0041`, `\udbff`, `\ue000`, `\ud83d`, `\ud83d\ude00`, `ude00`, `\Ude00`, ` \ude00`, "\n", "\xff", "\u00e4", "\U0001f600"}
	for _, high := range []string{`\ud800`, `\uD83D`, `\udbff`} {
		for _, b := range behind {
			unquotes(t, `"`+high+b, "", api.ErrText)
			unquotes(t, `"a`+high+b+`"`, "", api.ErrText)
		}
		unquotes(t, `"`+high+`\udc00"`+"x", "", api.ErrForm)
	}
	for _, low := range []string{`\udc00`, `\uDE00`, `\udfff`} {
		for _, b := range append(behind, `\udc00`, low+`\ud800`) {
			unquotes(t, `"`+low+b, "", api.ErrText)
			unquotes(t, `"a`+low+b+`"`, "", api.ErrText)
		}
	}
}

// P1.2
func TestUnquoteFaults(t *testing.T) {
	for _, c := range []struct {
		s string
		e api.Errno
	}{
		{``, api.ErrForm},
		{`a`, api.ErrForm},
		{`a"`, api.ErrForm},
		{"\xff\"", api.ErrForm},
		{`'a'`, api.ErrForm},
		{` ""`, api.ErrForm},
		{`\"a"`, api.ErrForm},
		{`"`, api.ErrForm},
		{`"a`, api.ErrForm},
		{`"a\"`, api.ErrForm},
		{`"a\`, api.ErrForm},
		{`"a\u`, api.ErrForm},
		{`"a\u004`, api.ErrForm},
		{`"a\u0041`, api.ErrForm},
		{`""x`, api.ErrForm},
		{`"" `, api.ErrForm},
		{`"""`, api.ErrForm},
		{`"a""b"`, api.ErrForm},
		{`"a"\ud800`, api.ErrForm},
		{"\"a\"\xff", api.ErrForm},
		{`"\u12"`, api.ErrForm},
		{`"\u123"`, api.ErrForm},
		{`"\u12G4"`, api.ErrForm},
		{`"\u-123"`, api.ErrForm},
		{`"\u+123"`, api.ErrForm},
		{`"\u 123"`, api.ErrForm},
		{`"\u1_23"`, api.ErrForm},
		{`"\u0x12"`, api.ErrForm},
		{"\"\\u00`0\"", api.ErrForm},
		{`"\u00@0"`, api.ErrForm},
		{`"\u00:0"`, api.ErrForm},
		{`"\u00/0"`, api.ErrForm},
		{"\"\\u00\u00e4\"", api.ErrForm},
		{"\"\\u00\xff0\"", api.ErrForm},
		{"\"a\nb\"", api.ErrForm},
		{"\"a\x1f\"", api.ErrForm},
		{"\"a\x00\"", api.ErrForm},
		{"\"\u00e4\xc3\"", api.ErrText},
		{"\"\xe2\x82", api.ErrText},
		{"\"\xed\xa0\xbd\xed\xb8\x80\"", api.ErrText},
	} {
		unquotes(t, c.s, "", c.e)
	}
	for _, b := range badTexts {
		unquotes(t, `"`+b.s+`"`, "", api.ErrText)
		unquotes(t, `"a\n`+b.s, "", api.ErrText)
	}
}

// P1.2: of several faults it is the first from the left.
func TestUnquoteFirstFault(t *testing.T) {
	form := []string{`\q`, "\n", `\u12`, `\u00g0`, `""`, "\\\xff"}
	text := []string{"\xff", "\xe2\x82", `\ud83d`, `\ude00`, `\ud83dx`, `\ud83d\u0041`, `\ud83d\uzzzz`}
	for _, a := range form {
		for _, b := range text {
			unquotes(t, `"`+a+" "+b+`"`, "", api.ErrForm)
			unquotes(t, `"`+b+" "+a+`"`, "", api.ErrText)
			unquotes(t, `"ok \n`+a+b, "", api.ErrForm)
			unquotes(t, `"ok \n`+b+a, "", api.ErrText)
		}
	}
}

// P1.2: 127, `/` and the replacement character may stand as they are.
func TestUnquoteAsItIs(t *testing.T) {
	for _, s := range []string{"", " ", "/", "\x7f", "\u0080", "\ufffd", "\u2028", "a\u00e4\u20ac\U0001f600\U0010ffff"} {
		unquotes(t, `"`+s+`"`, s, api.OK)
	}
}

var (
	letter = regexp.MustCompile(`^\\(["\\/bfnrt])`)
	pair   = regexp.MustCompile(`^\\u([dD][89abAB][0-9a-fA-F]{2})\\u([dD][c-fC-F][0-9a-fA-F]{2})`)
	half   = regexp.MustCompile(`^\\u[dD][89a-fA-F][0-9a-fA-F]{2}`)
	number = regexp.MustCompile(`^\\u([0-9a-fA-F]{4})`)
)

// reference reads a quoted text by patterns, one part after the other.
func reference(s string) (string, api.Errno) {
	hex := func(x string) rune {
		n, _ := strconv.ParseInt(x, 16, 32)
		return rune(n)
	}
	if s == "" || s[0] != '"' {
		return "", api.ErrForm
	}
	s = s[1:]
	out := ""
	for s != `"` {
		if s == "" {
			return "", api.ErrForm
		}
		if m := letter.FindStringSubmatch(s); m != nil {
			out += map[string]string{`"`: "\"", `\`: "\\", "/": "/", "b": "\b", "f": "\f", "n": "\n", "r": "\r", "t": "\t"}[m[1]]
			s = s[2:]
		} else if m := pair.FindStringSubmatch(s); m != nil {
			out += string(0x10000 + (hex(m[1])-0xd800)*0x400 + hex(m[2]) - 0xdc00)
			s = s[12:]
		} else if half.MatchString(s) {
			return "", api.ErrText
		} else if m := number.FindStringSubmatch(s); m != nil {
			out += string(hex(m[1]))
			s = s[6:]
		} else if s[0] < 32 || s[0] == '"' || s[0] == '\\' {
			return "", api.ErrForm
		} else if n := size(s); n > 0 {
			out += s[:n]
			s = s[n:]
		} else {
			return "", api.ErrText
		}
	}
	return out, api.OK
}

// size tells how many bytes the character at the beginning of s has; 0, if there is none.
func size(s string) int {
	for n := 1; n <= 4 && n <= len(s); n++ {
		if len([]rune(s[:n])) == 1 && string([]rune(s[:n])) == s[:n] {
			return n
		}
	}
	return 0
}

// P1.2: texts put together from pieces of parts, held against the reference.
func TestUnquoteAgainstReference(t *testing.T) {
	pieces := []string{`"`, `\`, `u`, `n`, `/`, `0041`, `d83d`, `de00`, `\ud83d`, `\uDE00`, `\u00e4`, "a", "\u00e4", "\xe2", "\x82\xac", "\n", "\x7f", "\xff"}
	r := rand.New(rand.NewSource(1))
	for range 60000 {
		s := `"`
		for range r.Intn(8) {
			s += pieces[r.Intn(len(pieces))]
		}
		if r.Intn(3) > 0 {
			s += `"`
		}
		want, e := reference(s)
		unquotes(t, s, want, e)
		if t.Failed() {
			return
		}
	}
}

// P1.4: Unquote of Quote is the text.
func TestUnquoteOfQuote(t *testing.T) {
	r := rand.New(rand.NewSource(2))
	for range 5000 {
		var b strings.Builder
		for range r.Intn(12) {
			b.WriteRune([]rune{rune(r.Intn(128)), rune(r.Intn(0xd800)), rune(0xe000 + r.Intn(0x2000)), rune(0x10000 + r.Intn(0x100000))}[r.Intn(4)])
		}
		s := b.String()
		q, e := utf.Quote(s)
		if e != api.OK {
			t.Errorf("Quote(%q): %d", s, int(e))
		}
		unquotes(t, q, s, api.OK)
	}
}
