package path_test

import (
	"math/rand"
	"slices"
	"strings"
	"testing"

	"tidemark/api"
	"tidemark/path"
)

// isPath sees to it that p is a path of these steps.
func isPath(t *testing.T, p string, want ...string) {
	t.Helper()
	if l, e := path.Steps(p); e != api.OK || !slices.Equal(l, want) {
		t.Errorf("Steps(%.100q): %q, %d, want %q", p, l, int(e), want)
	}
}

// isNone sees to it that p is no path.
func isNone(t *testing.T, p string) {
	t.Helper()
	if l, e := path.Steps(p); e != api.ErrSyntax || len(l) != 0 {
		t.Errorf("Steps(%.100q): %q, %d, want error %d", p, l, int(e), int(api.ErrSyntax))
	}
}

// P6.1: paths of 1 to 8 steps, and the dots between them.
func TestSteps(t *testing.T) {
	isPath(t, "a", "a")
	isPath(t, "a.b", "a", "b")
	isPath(t, "a.1.b_2", "a", "1", "b_2")
	isPath(t, "a.a.a", "a", "a", "a")
	isPath(t, "0.1.a.2", "0", "1", "a", "2")
	isPath(t, "a.b.c.d.e.f.g", "a", "b", "c", "d", "e", "f", "g")
	isPath(t, "a.b.c.d.e.f.g.h", "a", "b", "c", "d", "e", "f", "g", "h")
	isPath(t, "0.1.2.3.4.5.6.77", "0", "1", "2", "3", "4", "5", "6", "77")
	for _, p := range []string{"a.b.c.d.e.f.g.h.i", "0.0.0.0.0.0.0.0.0", "a.b.c.d.e.f.g.h.", "a.b.c.d.e.f.g.h.i.k.l"} {
		isNone(t, p)
	}
	for _, p := range []string{"", ".", "..", "a.", ".a", "a..b", "a...b", "0.", ".0", "0..0", "a.b.", ".a.b", "a.b..c"} {
		isNone(t, p)
	}
	long := slices.Repeat([]string{strings.Repeat("x", 24)}, 8)
	isPath(t, strings.Join(long, "."), long...)
	isPath(t, strings.Join(long[1:], ".")+".y", append(slices.Clone(long[1:]), "y")...)
	isNone(t, strings.Join(long, ".")+"x")
	isNone(t, strings.Join(long, ".")+".")
	isNone(t, strings.Join(long, ".")+".a")
	isNone(t, "x"+strings.Join(long, "."))
	isNone(t, strings.Join(long[1:], ".")+".y.z")
}

// noSteps are texts that no step is, and that make every path of which they are a step none.
func noSteps() []string {
	l := []string{
		"", letters(25), "_" + letters(24), strings.Repeat("_", 25), letters(24) + "0", strings.Repeat("x", 300),
		"1a", "0a", "9_", "10a", "1_", "12a", "a-b", "-a", "a b", " a", "a ", " ", "a\n", "\na", "a\x00", "\x00", "a,b", "$", "a$", "a[0]", "a/b", "a:b", "a@b", "a`b", "a{b", "@", "[", "`", "{", "/", ":", "^", "]",
		"\u00e4", "a\u00e4", "\u00e4a", "\u0430", "\u0660", "\uff11", "\uff41", "a\u0301", "\U0001f600", "\ufffd", "a\ufffd", "\u2028", "\u00b2",
		"\xff", "a\xff", "\xffa", "a\xc3", "\xc3\x28", "\x80", "\xed\xa0\x80", "\xc0\xae", "a\xe2\x82",
		"00", "01", "09", "000", "001", "010", "100", "101", "999", "123456789012345678901", strings.Repeat("9", 24), "-1", "+1", "1 ", " 1", "1-", "0x1", "1.0e", "-0", "1e1",
	}
	return l
}

// P6.1: names and places, at each place of a path.
func TestStep(t *testing.T) {
	good := []string{
		"a", "z", "A", "Z", "_", "m", "aa", "a_", "_a", "__", "_0", "a0", "a9", "A9", "aZ", "Az", "x1y2_z", "null", "id",
		letters(23), letters(24), "_" + strings.Repeat("9", 23), strings.Repeat("_", 24), strings.Repeat("Z", 24),
		"0", "1", "5", "8", "9", "10", "11", "19", "20", "90", "99", "31", "32",
	}
	for _, s := range good {
		isPath(t, s, s)
		isPath(t, s+".a", s, "a")
		isPath(t, "a."+s, "a", s)
		isPath(t, "0."+s+".0", "0", s, "0")
	}
	for _, s := range noSteps() {
		isNone(t, s)
		isNone(t, s+".a")
		isNone(t, "a."+s)
		isNone(t, "0."+s+".0")
	}
}

// P6.1: every character and every byte, by itself, ahead of and behind others.
func TestEachCharacter(t *testing.T) {
	const digits = "0123456789"
	const letter = "_abcdefghijklmnopqrstuvwxyzABCDEFGHIJKLMNOPQRSTUVWXYZ"
	try := func(c string) {
		t.Helper()
		steps := map[string]bool{
			c:       strings.Contains(letter+digits, c),
			c + "a": strings.Contains(letter, c),
			"a" + c: strings.Contains(letter+digits, c),
			"1" + c: strings.Contains(digits, c),
			c + "1": strings.Contains(letter+digits, c) && c != "0",
		}
		for s, good := range steps {
			if good {
				isPath(t, s, s)
			} else {
				isNone(t, s)
			}
		}
	}
	for r := range rune(0x3000) {
		if r != '.' {
			try(string(r))
		}
	}
	for b := 128; b < 256; b++ {
		try(string([]byte{byte(b)}))
	}
	isPath(t, "a.1", "a", "1")
	isPath(t, "1.a", "1", "a")
}

// P6.1: texts by chance, held against another reader.
func TestStepsByChance(t *testing.T) {
	r := rand.New(rand.NewSource(1))
	parts := []string{"a", "b", "Z", "_", "0", "1", "9", "10", ".", ".", ".", ".", "..", "-", "\u00e4", "\xff", letters(11), letters(23)}
	good := 0
	for range 30000 {
		p := ""
		for range r.Intn(15) {
			p += parts[r.Intn(len(parts))]
			if r.Intn(2) == 0 {
				p += "."
			}
		}
		for range r.Intn(3) {
			p = strings.ReplaceAll(strings.Trim(p, "."), "..", ".")
		}
		steps, ok := stepsOf(p)
		if !ok {
			isNone(t, p)
			continue
		}
		good++
		isPath(t, p, steps...)
	}
	if good < 3000 {
		t.Errorf("%d paths", good)
	}
}
