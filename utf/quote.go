package utf

import (
	"strconv"
	"strings"
	"unicode/utf8"

	"tidemark/api"
)

// The parts of two bytes: each letter stands behind a `\` for the character at its place in the other text.
const (
	letters    = `"\bfnrt`
	characters = "\"\\\b\f\n\r\t"
	slash      = "/" // is read like them, but written as it is
)

const digits = "0123456789abcdef"

// The halves of a character above FFFF.
const (
	firstHigh = 0xd800
	firstLow  = 0xdc00
	lastLow   = 0xdfff
)

// Quote writes s as a quoted text.
func Quote(s string) (string, api.Errno) {
	var b strings.Builder
	b.WriteByte('"')
	for i, r := range s {
		if broken(s, i, r) {
			return "", api.ErrText
		}
		writePart(&b, r)
	}
	b.WriteByte('"')
	return b.String(), api.OK
}

// writePart writes the part that stands for r.
func writePart(b *strings.Builder, r rune) {
	n := strings.IndexRune(characters, r)
	if n >= 0 {
		goto letter
	}
	if r < ' ' || r == 127 {
		goto number
	}
	b.WriteRune(r)
	return
letter:
	b.WriteByte('\\')
	b.WriteByte(letters[n])
	return
number:
	b.WriteString(`\u00`)
	b.WriteByte(digits[r>>4])
	b.WriteByte(digits[r&15])
}

// Unquote reads a quoted text.
func Unquote(s string) (string, api.Errno) {
	var b strings.Builder
	var r, low rune
	var n int
	var ok bool
	if !strings.HasPrefix(s, `"`) {
		goto noPart
	}
	s = s[1:]
asItIs:
	n = plain(s)
	b.WriteString(s[:n])
	s = s[n:]
	switch {
	case s == `"`:
		return b.String(), api.OK
	case strings.HasPrefix(s, `\`):
		goto escape
	case s != "" && s[0] >= utf8.RuneSelf:
		goto noCharacter
	}
	goto noPart
escape:
	r, ok = unit(s)
	if ok {
		goto number
	}
	r, ok = short(s)
	if !ok {
		goto noPart
	}
	s = s[2:]
	goto told
number:
	s = s[6:]
	if r < firstHigh || r > lastLow {
		goto told
	}
	low, ok = unit(s)
	if r >= firstLow || !ok || low < firstLow || low > lastLow {
		goto noCharacter
	}
	s = s[6:]
	r = 0x10000 + (r-firstHigh)<<10 + (low - firstLow)
told:
	b.WriteRune(r)
	goto asItIs
noPart:
	return "", api.ErrForm
noCharacter:
	return "", api.ErrText
}

// plain tells how many bytes at the beginning of s are characters that stand for themselves.
func plain(s string) int {
	for i, r := range s {
		if r < ' ' || r == '"' || r == '\\' || broken(s, i, r) {
			return i
		}
	}
	return len(s)
}

// unit reads `\u` and four digits at the beginning of s.
func unit(s string) (rune, bool) {
	if len(s) < 6 || s[:2] != `\u` {
		return 0, false
	}
	n, err := strconv.ParseUint(s[2:6], 16, 16)
	return rune(n), err == nil
}

// short reads `\` and a letter at the beginning of s.
func short(s string) (rune, bool) {
	if len(s) < 2 {
		return 0, false
	}
	n := strings.IndexByte(letters+slash, s[1])
	if n < 0 {
		return 0, false
	}
	return rune((characters + slash)[n]), true
}
