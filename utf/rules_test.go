package utf_test

import (
	"math"
	"math/rand"
	"slices"
	"strings"
	"testing"
	"unsafe"

	"tidemark/api"
	"tidemark/utf"
)

// The chapter's examples.
func TestExamples(t *testing.T) {
	if n, e := utf.Count("a\u00e4\u20ac"); n != 3 || e != api.OK {
		t.Errorf("Count: %d, %d", n, int(e))
	}
	if utf.Valid("\xc0\x80") || utf.Valid("\xed\xa0\x80") {
		t.Error("Valid: true")
	}
	if q, e := utf.Quote("a\"\n\x7f"); q != `"a\"\n\u007f"` || e != api.OK {
		t.Errorf("Quote: %s, %d", q, int(e))
	}
	unquotes(t, "\"\\u00e4\\/\"", "\u00e4/", api.OK)
	unquotes(t, "\"\\ud83d\\ude00\"", "\U0001f600", api.OK)
	unquotes(t, "\"\\ud83d\"", "", api.ErrText)
	unquotes(t, "\"a", "", api.ErrForm)
	unquotes(t, "\"\\q\"", "", api.ErrForm)
	if n, e := utf.Compare("a", "ab"); n != -1 || e != api.OK {
		t.Errorf("Compare: %d, %d", n, int(e))
	}
	if s, e := utf.Cut("a\u00e4b", 1, 2); s != "\u00e4" || e != api.OK {
		t.Errorf("Cut: %q, %d", s, int(e))
	}
	if s, e := utf.Cut("a", 1, 0); s != "" || e != api.ErrArg {
		t.Errorf("Cut: %q, %d", s, int(e))
	}
}

// R1, R2, R5: whatever bytes and numbers: each call ends, tells nothing beside an error, and tells it again.
func TestAnyArguments(t *testing.T) {
	r := rand.New(rand.NewSource(3))
	places := []int{math.MinInt, -1, 0, 1, 2, 3, 7, math.MaxInt}
	for range 20000 {
		b := make([]byte, r.Intn(9))
		for i := range b {
			b[i] = []byte{byte(r.Intn(256)), byte(r.Intn(128)), '"', '\\', 'u', 'd', 0xe2, 0x82, 0xac}[r.Intn(9)]
		}
		s := string(b)
		from, to := places[r.Intn(len(places))], places[r.Intn(len(places))]
		for _, call := range []func() (string, api.Errno){
			func() (string, api.Errno) { return utf.Quote(s) },
			func() (string, api.Errno) { return utf.Unquote(s) },
			func() (string, api.Errno) { return utf.Unquote(`"` + s) },
			func() (string, api.Errno) { return utf.Unquote(`"` + s + `"`) },
			func() (string, api.Errno) { return utf.Cut(s, from, to) },
		} {
			x, e := call()
			y, f := call()
			if x != y || e != f || e != api.OK && x != "" {
				t.Fatalf("%q, %d, %d: %q, %d, then %q, %d", s, from, to, x, int(e), y, int(f))
			}
		}
	}
}

// R1: numbers of all sizes handed to Text.
func TestAnyNumbers(t *testing.T) {
	r := rand.New(rand.NewSource(4))
	for range 20000 {
		x := rune(r.Uint32()) >> r.Intn(32)
		s, e := utf.Text([]rune{x, 'a'})
		if fewest(x) == 0 && (s != "" || e != api.ErrText) || fewest(x) > 0 && (s != encode(x, fewest(x))+"a" || e != api.OK) {
			t.Fatalf("Text(%x, a): %q, %d", x, s, int(e))
		}
	}
}

// R4: what is handed in stays as it is, spare room too.
func TestListsStay(t *testing.T) {
	for _, l := range [][]rune{{97, 0x20ac, 0x1f600, 7, 7, 7}, {97, 0xd800, -1, 7, 7, 7}} {
		was := slices.Clone(l)
		utf.Text(l[:3])
		if !slices.Equal(l, was) {
			t.Errorf("Text changed %x to %x", was, l)
		}
	}
}

// R4: a text that was told hangs no more on the list it was made of.
func TestTextKeepsNoList(t *testing.T) {
	l := []rune{97, 98, 99}
	s, _ := utf.Text(l)
	clear(l)
	if s != "abc" {
		t.Errorf("Text: %q", s)
	}
}

// R4: each answer is a list of its own, spare room too.
func TestRunesAreNew(t *testing.T) {
	const s = "a\u00e4\u20ac"
	a, _ := utf.Runes(s)
	b, _ := utf.Runes(s)
	for i := range a[:cap(a)] {
		a[:cap(a)][i] = -1
	}
	c, _ := utf.Runes(s)
	want := []rune{0x61, 0xe4, 0x20ac}
	if !slices.Equal(b, want) || !slices.Equal(c, want) {
		t.Errorf("Runes: %x, %x", b, c)
	}
}

// overlap tells whether two texts share memory.
func overlap(a, b string) bool {
	if a == "" || b == "" {
		return false
	}
	p, q := uintptr(unsafe.Pointer(unsafe.StringData(a))), uintptr(unsafe.Pointer(unsafe.StringData(b)))
	return p < q+uintptr(len(b)) && q < p+uintptr(len(a))
}

// R4: texts that are answered are new memory.
func TestTextsAreNew(t *testing.T) {
	s := strings.Repeat("a\u00e4", 4)
	for from := range 9 {
		for to := from; to <= 8; to++ {
			if x, e := utf.Cut(s, from, to); e != api.OK || overlap(x, s) {
				t.Errorf("Cut(%d, %d) shares memory, or error %d", from, to, int(e))
			}
		}
	}
	q := `"` + s + `"`
	if x, e := utf.Unquote(q); e != api.OK || overlap(x, q) {
		t.Errorf("Unquote shares memory, or error %d", int(e))
	}
	if x, e := utf.Quote(s); e != api.OK || overlap(x, s) {
		t.Errorf("Quote shares memory, or error %d", int(e))
	}
}
