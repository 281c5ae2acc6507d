package quoted_test

import (
	"strings"
	"testing"
	"unsafe"

	"tidemark/api"
	"tidemark/quoted"
)

// behind are what may stand behind a quoted text.
var behind = []string{"", " ", "\"", "a", "\\", "\"a\"", "\xff", "\n", ",1]"}

// P1.2, P4.1, P14.1: a quoted text is read as far as its end, whatever stands behind it.
func TestTake(t *testing.T) {
	for q, want := range map[string]string{`""`: "", `"a"`: "a", `"\""`: `"`, `"\\"`: `\`, `"\\\""`: `\"`, `"\\\\"`: `\\`, `"\u00e4\/"`: "\u00e4/", "\"\u20ac\ufffd\x7f\"": "\u20ac\ufffd\x7f", `"\ud83d\ude00"`: "\U0001f600"} {
		for _, more := range behind {
			if s, n, e := quoted.Take(q + more); s != want || n != len(q) || e != api.OK {
				t.Errorf("%q: %q, %d, %d", q+more, s, n, int(e))
			}
		}
	}
}

// P1.2, P4.1, P14.1: the first fault from the left: ErrSyntax at what is no part, an end that is missing too, ErrText at what is no character.
func TestFaults(t *testing.T) {
	ended := map[api.Errno][]string{
		api.ErrSyntax: {`"\q"`, `"\u12"`, "\"a\nb\"", "\"\x00\"", "\"\\\xff\"", `"\q\ud800"`},
		api.ErrText:   {"\"\xff\"", "\"a\xc3\"", `"\ud800"`, `"\ude00\ud83d"`, `"\ud83d\u0041"`, "\"\xff\\q\""},
	}
	open := map[api.Errno][]string{
		api.ErrSyntax: {"", "a", "a\"b\"", " \"a\"", "\xff", `"`, `"a`, `"\"`, `"\`, `"\\\"`, `"\u004`},
		api.ErrText:   {"\"\xe2\x82", `"\ud83d`, "\"\xff\\"},
	}
	fails := func(s string, want api.Errno) {
		t.Helper()
		if x, n, e := quoted.Take(s); x != "" || n != 0 || e != want {
			t.Errorf("%q: %q, %d, %d, want error %d", s, x, n, int(e), int(want))
		}
	}
	for want, l := range ended {
		for _, s := range l {
			for _, more := range behind {
				fails(s+more, want)
			}
		}
	}
	for want, l := range open {
		for _, s := range l {
			fails(s, want)
		}
	}
}

// R1: texts that are great.
func TestGreat(t *testing.T) {
	many := strings.Repeat("a", 1<<20)
	if s, n, e := quoted.Take(`"` + many + `"b`); s != many || n != len(many)+2 || e != api.OK {
		t.Errorf("%d bytes, %d, %d", len(s), n, int(e))
	}
	if s, n, e := quoted.Take(`"` + strings.Repeat(`\`, 1<<20)); s != "" || n != 0 || e != api.ErrSyntax {
		t.Errorf("%d bytes, %d, %d", len(s), n, int(e))
	}
}

// R4: what was read hangs no more on the text it was read of.
func TestNew(t *testing.T) {
	b := []byte(`"abc"d`)
	s, _, _ := quoted.Take(unsafe.String(&b[0], len(b)))
	clear(b)
	if s != "abc" {
		t.Errorf("%q", s)
	}
}
