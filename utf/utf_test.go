package utf_test

import (
	"math"
	"slices"
	"strings"
	"testing"

	"tidemark/api"
	"tidemark/utf"
)

// badTexts are bytes that are no UTF-8, each with the reason.
var badTexts = []struct{ why, s string }{
	{"00 in two bytes", "\xc0\x80"},
	{"7f in two bytes", "\xc1\xbf"},
	{"7ff in three bytes", "\xe0\x9f\xbf"},
	{"ffff in four bytes", "\xf0\x8f\xbf\xbf"},
	{"d800", "\xed\xa0\x80"},
	{"dfff", "\xed\xbf\xbf"},
	{"a pair of halves", "\xed\xa0\xbd\xed\xb8\x80"},
	{"110000", "\xf4\x90\x80\x80"},
	{"140000", "\xf5\x80\x80\x80"},
	{"five bytes", "\xf8\x88\x80\x80\x80"},
	{"six bytes", "\xfc\x84\x80\x80\x80\x80"},
	{"cut off after one of two", "\xc3"},
	{"cut off after one of three", "\xe2"},
	{"cut off after two of three", "\xe2\x82"},
	{"cut off after three of four", "\xf0\x9f\x98"},
	{"cut off by another character", "\xe2\x82a"},
	{"a byte that goes on", "\x80"},
	{"the last byte that goes on", "\xbf"},
	{"one byte too many", "\xc3\xa4\xa4"},
	{"fe", "\xfe"},
	{"ff", "\xff"},
	{"the replacement character, cut off", "\xef\xbf"},
}

// goodTexts are texts with their characters.
var goodTexts = []struct {
	s string
	l []rune
}{
	{"", nil},
	{"a", []rune{97}},
	{"\x00", []rune{0}},
	{"\x7f\u0080", []rune{0x7f, 0x80}},
	{"\u07ff\u0800", []rune{0x7ff, 0x800}},
	{"\ud7ff\ue000", []rune{0xd7ff, 0xe000}},
	{"\uffff\U00010000", []rune{0xffff, 0x10000}},
	{"\U0010ffff", []rune{0x10ffff}},
	{"\ufffd", []rune{0xfffd}},
	{"a\u00e4\u20ac\U0001f600", []rune{0x61, 0xe4, 0x20ac, 0x1f600}},
	{"\U0001f600\u20ac\u00e4a", []rune{0x1f600, 0x20ac, 0xe4, 0x61}},
}

// encode writes a number as UTF-8's rule would, in so many bytes: it knows nothing of what UTF-8 leaves out.
func encode(r rune, size int) string {
	if size == 1 {
		return string([]byte{byte(r)})
	}
	b := make([]byte, size)
	for i := size - 1; i > 0; i-- {
		b[i] = byte(0x80 | r&0x3f)
		r >>= 6
	}
	b[0] = byte(0xff<<(8-size)) | byte(r)
	return string(b)
}

// fewest tells in how many bytes UTF-8 has r; 0, if it has not.
func fewest(r rune) int {
	switch {
	case r < 0 || r > 0x10ffff || r >= 0xd800 && r <= 0xdfff:
		return 0
	case r < 0x80:
		return 1
	case r < 0x800:
		return 2
	case r < 0x10000:
		return 3
	}
	return 4
}

func refused(t *testing.T, s string) {
	t.Helper()
	if utf.Valid(s) {
		t.Errorf("Valid(%q): true", s)
	}
	if n, e := utf.Count(s); n != 0 || e != api.ErrText {
		t.Errorf("Count(%q): %d, %d", s, n, int(e))
	}
	if l, e := utf.Runes(s); len(l) != 0 || e != api.ErrText {
		t.Errorf("Runes(%q): %v, %d", s, l, int(e))
	}
}

func taken(t *testing.T, s string, want []rune) {
	t.Helper()
	if !utf.Valid(s) {
		t.Errorf("Valid(%q): false", s)
	}
	if n, e := utf.Count(s); n != len(want) || e != api.OK {
		t.Errorf("Count(%q): %d, %d, want %d", s, n, int(e), len(want))
	}
	if l, e := utf.Runes(s); !slices.Equal(l, want) || e != api.OK {
		t.Errorf("Runes(%q): %v, %d, want %v", s, l, int(e), want)
	}
	if x, e := utf.Text(want); x != s || e != api.OK {
		t.Errorf("Text(%v): %q, %d, want %q", want, x, int(e), s)
	}
}

// P1.1
func TestGoodTexts(t *testing.T) {
	for _, g := range goodTexts {
		taken(t, g.s, g.l)
	}
}

// P1.1
func TestBadTexts(t *testing.T) {
	for _, b := range badTexts {
		t.Run(b.why, func(t *testing.T) {
			refused(t, b.s)
			refused(t, "a\u00e4"+b.s)
			refused(t, b.s+"\u20ac")
			refused(t, "\ufffd"+b.s+"\ufffd")
		})
	}
}

// P1.1: every number in every count of bytes that could hold it is a character just in the fewest.
func TestEveryCharacter(t *testing.T) {
	top := []rune{0, 0x7f, 0x7ff, 0xffff, 0x1fffff}
	for size := 1; size <= 4; size++ {
		for r := rune(0); r <= top[size] && !t.Failed(); r++ {
			if s := encode(r, size); fewest(r) == size {
				taken(t, s, []rune{r})
			} else {
				refused(t, s)
			}
		}
	}
}

// P1.1: two bytes are two small characters, or one of two bytes, or nothing.
func TestEveryPairOfBytes(t *testing.T) {
	for a := range 256 {
		for b := range 256 {
			s := string([]byte{byte(a), byte(b)})
			small := a < 0x80 && b < 0x80
			pair := a >= 0xc2 && a <= 0xdf && b >= 0x80 && b <= 0xbf
			if utf.Valid(s) != (small || pair) {
				t.Errorf("Valid(%q): %v", s, !(small || pair))
			}
		}
	}
}

// P1.1
func TestTextOfNoCharacters(t *testing.T) {
	for _, r := range []rune{-1, math.MinInt32, -0x61, 0xd800, 0xdbff, 0xdc00, 0xdfff, 0x110000, 0x1fffff, math.MaxInt32} {
		for _, l := range [][]rune{{r}, {97, r}, {r, 97}, {0x20ac, r, 0x20ac}} {
			if s, e := utf.Text(l); s != "" || e != api.ErrText {
				t.Errorf("Text(%x): %q, %d", l, s, int(e))
			}
		}
	}
	for _, r := range []rune{0, 0xd7ff, 0xe000, 0xfffd, 0x10ffff} {
		if s, e := utf.Text([]rune{r}); s != encode(r, fewest(r)) || e != api.OK {
			t.Errorf("Text(%x): %q, %d", r, s, int(e))
		}
	}
}

// P1.3
func TestCompare(t *testing.T) {
	for _, c := range []struct {
		a, b string
		want int
	}{
		{"", "", 0},
		{"", "a", -1},
		{"", "\x00", -1},
		{"a", "ab", -1},
		{"b", "ab", 1},
		{"\u00e4", "\u00e4", 0},
		{"a\u00e4", "a\u00e4\x00", -1},
		{"z", "\u00e4", -1},
		{"\u00e4", "\u20ac", -1},
		{"\u07ff", "\u0800", -1},
		{"\ud7ff", "\ue000", -1},
		{"\uffff", "\U00010000", -1},
		{"\U0010ffff", "\U0010fffe\U0010ffff", 1},
		{"\ufffd", "\ufffd", 0},
	} {
		if n, e := utf.Compare(c.a, c.b); n != c.want || e != api.OK {
			t.Errorf("Compare(%q, %q): %d, %d, want %d", c.a, c.b, n, int(e), c.want)
		}
		if n, e := utf.Compare(c.b, c.a); n != -c.want || e != api.OK {
			t.Errorf("Compare(%q, %q): %d, %d, want %d", c.b, c.a, n, int(e), -c.want)
		}
	}
}

// P1.3
func TestCompareOfBadTexts(t *testing.T) {
	for _, b := range badTexts {
		for _, c := range [][2]string{{b.s, "a"}, {"a", b.s}, {b.s, b.s}, {"a" + b.s, "b"}, {"b", "a" + b.s}, {"", b.s}, {b.s, ""}} {
			if n, e := utf.Compare(c[0], c[1]); n != 0 || e != api.ErrText {
				t.Errorf("Compare(%q, %q): %d, %d", c[0], c[1], n, int(e))
			}
		}
	}
}

// P1.4: Compare goes as the bytes do; P1.3: and as the characters do.
func TestCompareGoesAsBytesAndCharacters(t *testing.T) {
	var texts []string
	for _, g := range goodTexts {
		for _, h := range goodTexts {
			texts = append(texts, g.s+h.s)
		}
	}
	for _, a := range texts {
		for _, b := range texts {
			n, e := utf.Compare(a, b)
			k, _ := utf.Runes(a)
			l, _ := utf.Runes(b)
			if n != strings.Compare(a, b) || n != slices.Compare(k, l) || e != api.OK {
				t.Errorf("Compare(%q, %q): %d, %d", a, b, n, int(e))
			}
		}
	}
}

// P1.3
func TestCut(t *testing.T) {
	const s = "a\u00e4\u20ac\U0001f600"
	for _, c := range []struct {
		s        string
		from, to int
		want     string
		e        api.Errno
	}{
		{s, 0, 0, "", api.OK},
		{s, 0, 1, "a", api.OK},
		{s, 1, 2, "\u00e4", api.OK},
		{s, 1, 3, "\u00e4\u20ac", api.OK},
		{s, 3, 4, "\U0001f600", api.OK},
		{s, 0, 4, s, api.OK},
		{s, 4, 4, "", api.OK},
		{s, 2, 2, "", api.OK},
		{s, 0, 5, "", api.ErrArg},
		{s, 4, 5, "", api.ErrArg},
		{s, 5, 5, "", api.ErrArg},
		{s, 0, 10, "", api.ErrArg},
		{s, -1, 0, "", api.ErrArg},
		{s, -1, 4, "", api.ErrArg},
		{s, -2, -1, "", api.ErrArg},
		{s, 0, -1, "", api.ErrArg},
		{s, 2, 1, "", api.ErrArg},
		{s, 4, 3, "", api.ErrArg},
		{s, math.MinInt, math.MaxInt, "", api.ErrArg},
		{s, math.MaxInt, math.MinInt, "", api.ErrArg},
		{s, 0, math.MaxInt, "", api.ErrArg},
		{s, math.MinInt, 0, "", api.ErrArg},
		{"", 0, 0, "", api.OK},
		{"", 0, 1, "", api.ErrArg},
		{"", 1, 1, "", api.ErrArg},
		{"\xff", 0, 0, "", api.ErrText},
		{"\xff", 5, 0, "", api.ErrText},
		{"a\xff", 0, 1, "", api.ErrText},
		{"a\xff", -1, 0, "", api.ErrText},
	} {
		if x, e := utf.Cut(c.s, c.from, c.to); x != c.want || e != c.e {
			t.Errorf("Cut(%q, %d, %d): %q, %d, want %q, %d", c.s, c.from, c.to, x, int(e), c.want, int(c.e))
		}
	}
}

// P1.4: cuts one behind the other make the text.
func TestCutsMakeTheText(t *testing.T) {
	const s = "\U0001f600a\u20ac\ufffd\u00e4\x00"
	for from := range 7 {
		for to := from; to <= 6; to++ {
			a, e := utf.Cut(s, 0, from)
			b, f := utf.Cut(s, from, to)
			c, g := utf.Cut(s, to, 6)
			if a+b+c != s || e != api.OK || f != api.OK || g != api.OK {
				t.Errorf("cuts at %d and %d: %q, %q, %q", from, to, a, b, c)
			}
			if n, e := utf.Count(b); n != to-from || e != api.OK {
				t.Errorf("Cut(%q, %d, %d): %d characters", s, from, to, n)
			}
		}
	}
}

// P1.4: Text of Runes is the text.
func TestTextOfRunes(t *testing.T) {
	for _, g := range goodTexts {
		for _, h := range goodTexts {
			s := g.s + h.s
			l, e := utf.Runes(s)
			if x, f := utf.Text(l); x != s || e != api.OK || f != api.OK {
				t.Errorf("Text of Runes(%q): %q, %d, %d", s, x, int(e), int(f))
			}
		}
	}
}
