package naming_test

import (
	"strconv"
	"strings"
	"testing"

	"tidemark/naming"
)

// P6.1: names, of at most 24 bytes, are no places.
func TestNames(t *testing.T) {
	for _, s := range []string{"a", "z", "A", "Z", "_", "a0", "_9", "aZ_0", "null", strings.Repeat("x", 24), "_" + strings.Repeat("9", 23)} {
		if n, ok := naming.Place(s); !naming.IsName(s) || n != 0 || ok {
			t.Errorf("%q: %v, %d, %v", s, naming.IsName(s), n, ok)
		}
	}
}

// P6.1: places, from 0 to 99, are no names.
func TestPlaces(t *testing.T) {
	for want := range 100 {
		s := strconv.Itoa(want)
		if n, ok := naming.Place(s); naming.IsName(s) || n != want || !ok {
			t.Errorf("%q: %v, %d, %v", s, naming.IsName(s), n, ok)
		}
	}
}

// P6.1: what is neither.
func TestNeither(t *testing.T) {
	for _, s := range []string{
		"", ".", "a.b", "a.", ".a", "0.1", "1a", "0a", "9_", "a-b", "a b", " a", "a\n", "a\x00", "@", "[", "`", "{", "/", ":", "-1", "+1", " 1", "1 ",
		"00", "01", "09", "000", "100", "999", strings.Repeat("9", 30), strings.Repeat("x", 25), strings.Repeat("x", 300),
		"\u00e4", "a\u00e4", "\u0430", "\u0660", "\uff11", "\ufffd", "\xff", "a\xff", "a\xc3", "\x80",
	} {
		if n, ok := naming.Place(s); naming.IsName(s) || n != 0 || ok {
			t.Errorf("%q: %v, %d, %v", s, naming.IsName(s), n, ok)
		}
	}
}

// P14.1: Words are made as names are, of however many bytes; no other text is one.
func TestWords(t *testing.T) {
	for _, s := range []string{"a", "z", "A", "Z", "_", "a0", "_9", "aZ_0", strings.Repeat("x", 24), strings.Repeat("x", 25), strings.Repeat("_9", 5000)} {
		if !naming.IsWord(s) {
			t.Errorf("%q is no Word", s)
		}
	}
	for _, s := range []string{"", "1", "1a", "a-b", "a b", " a", "a ", "a\n", "a.b", "\u00e4", "a\u00e4", "\uff41", "a\xff", strings.Repeat("x", 5000) + "?"} {
		if naming.IsWord(s) {
			t.Errorf("%q is a Word", s)
		}
	}
}

// P6.1, P14.1: letters and digits are those of ASCII, with `_` as a letter.
func TestCharacters(t *testing.T) {
	const letters, digits = "abcdefghijklmnopqrstuvwxyzABCDEFGHIJKLMNOPQRSTUVWXYZ_", "0123456789"
	for r := rune(-1); r <= 0x10ffff; r++ {
		letter, digit := r >= 0 && strings.ContainsRune(letters, r), r >= 0 && strings.ContainsRune(digits, r)
		if naming.IsLetter(r) != letter || naming.IsDigit(r) != digit {
			t.Errorf("%x: %v, %v", r, naming.IsLetter(r), naming.IsDigit(r))
		}
	}
}
