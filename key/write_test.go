package key_test

import (
	"math"
	"slices"
	"strings"
	"testing"

	"tidemark/api"
	"tidemark/key"
	"tidemark/sample"
)

// The chapter's examples.
func TestExamples(t *testing.T) {
	isKey(t, null, 10)
	isKey(t, boolean(1), 20, 1)
	isKey(t, number(-1), 30, 127, 255, 255, 255, 255, 255, 255, 255)
	isKey(t, text("a"), 40, 97, 0, 0)
	isKey(t, list(number(1)), 50, 1, 30, 128, 0, 0, 0, 0, 0, 0, 1, 0)
	isKey(t, doc(field("a", null)), 60, 1, 97, 0, 0, 10, 0)
	isNoKey(t, 10, 10)
	splits(t, []byte{10, 10}, []api.Val{null, null})
	rises(t, []byte{1, 255}, []byte{2})
	isLast(t, []byte{255})
}

// P5.1: keys of each kind, in bytes.
func TestKinds(t *testing.T) {
	isKey(t, boolean(0), 20, 0)
	isKey(t, number(0), 30, 128, 0, 0, 0, 0, 0, 0, 0)
	isKey(t, number(1), 30, 128, 0, 0, 0, 0, 0, 0, 1)
	isKey(t, number(256), 30, 128, 0, 0, 0, 0, 0, 1, 0)
	isKey(t, number(0x0102030405060708), 30, 129, 2, 3, 4, 5, 6, 7, 8)
	isKey(t, number(-0x0102030405060708), 30, 126, 253, 252, 251, 250, 249, 248, 248)
	isKey(t, number(math.MinInt64), 30, 0, 0, 0, 0, 0, 0, 0, 0)
	isKey(t, number(math.MinInt64+1), 30, 0, 0, 0, 0, 0, 0, 0, 1)
	isKey(t, number(math.MaxInt64), 30, 255, 255, 255, 255, 255, 255, 255, 255)
	isKey(t, number(math.MaxInt64-1), 30, 255, 255, 255, 255, 255, 255, 255, 254)
	isKey(t, text(""), 40, 0, 0)
	isKey(t, text("\u00e4\U0001f600"), 40, 195, 164, 240, 159, 152, 128, 0, 0)
	isKey(t, list(), 50, 0)
	isKey(t, doc(), 60, 0)
	isKey(t, list(null, list(), doc(), boolean(0)), 50, 1, 10, 1, 50, 0, 1, 60, 0, 1, 20, 0, 0)
	isKey(t, list(list(list()), text("x")), 50, 1, 50, 1, 50, 0, 0, 1, 40, "x", 0, 0, 0)
	isKey(t, doc(field("a", list()), field("b", boolean(0))), 60, 1, "a", 0, 0, 50, 0, 1, "b", 0, 0, 20, 0, 0)
	isKey(t, doc(field("a", doc(field("b", null))), field("aa", text("a"))), 60, 1, "a", 0, 0, 60, 1, "b", 0, 0, 10, 0, 1, "aa", 0, 0, 40, "a", 0, 0, 0)
	isKey(t, list(doc(field("a", list(list(boolean(1))))), null), 50, 1, 60, 1, "a", 0, 0, 50, 1, 50, 1, 20, 1, 0, 0, 0, 1, 10, 0)
}

// P5.1: Texts and names with bytes 0 in them, and with bytes that stand for others elsewhere.
func TestNoughts(t *testing.T) {
	for s, b := range map[string][]byte{
		"\x00":                 {0, 255},
		"\x00\x00":             {0, 255, 0, 255},
		"\x00\x00\x00":         {0, 255, 0, 255, 0, 255},
		"\x00a":                {0, 255, 97},
		"a\x00":                {97, 0, 255},
		"a\x00b":               {97, 0, 255, 98},
		"a\x00\x00b":           {97, 0, 255, 0, 255, 98},
		"\x00a\x00":            {0, 255, 97, 0, 255},
		"\x01":                 {1},
		"\x00\x01\x00":         {0, 255, 1, 0, 255},
		"\n":                   {10},
		"\x00\u00ff":           {0, 255, 195, 191},
		"0":                    {48},
		"\x7f\u0080\x00\u07ff": {127, 194, 128, 0, 255, 223, 191},
	} {
		isKey(t, text(s), 40, b, 0, 0)
		isKey(t, list(text(s), text(s)), 50, 1, 40, b, 0, 0, 1, 40, b, 0, 0, 0)
		isKey(t, doc(field(s, null)), 60, 1, b, 0, 0, 10, 0)
		isKey(t, doc(field(s, text(s))), 60, 1, b, 0, 0, 40, b, 0, 0, 0)
	}
	isKey(t, doc(field("\x00", null), field("\x00\x00", null), field("a", null), field("a\x00", null)), 60, 1, 0, 255, 0, 0, 10, 1, 0, 255, 0, 255, 0, 0, 10, 1, 97, 0, 0, 10, 1, 97, 0, 255, 0, 0, 10, 0)
	isKey(t, text(strings.Repeat("\x00", 2045)), 40, strings.Repeat("\x00\xff", 2045), 0, 0)
	isKey(t, doc(field(strings.Repeat("\x00", 24), null)), 60, 1, strings.Repeat("\x00\xff", 24), 0, 0, 10, 0)
}

// P5.1: Of tells value.Good's errors; so does Join, of the first value that has one.
func TestOfBad(t *testing.T) {
	for _, a := range sample.Bad() {
		hasNone(t, a.V, a.E)
		for _, b := range sample.Bad() {
			joinsNone(t, a.E, a.V, b.V)
			joinsNone(t, a.E, null, list(), a.V, null, b.V, null)
		}
	}
}

// P5.1: Join of no, one and many values.
func TestJoin(t *testing.T) {
	isJoint(t, nil)
	isJoint(t, []api.Val{})
	isJoint(t, []api.Val{null}, 10)
	isJoint(t, []api.Val{null, boolean(1)}, 10, 20, 1)
	isJoint(t, []api.Val{boolean(1), null}, 20, 1, 10)
	isJoint(t, []api.Val{text(""), text("\x00"), text("a"), doc(), list(null)}, 40, 0, 0, 40, 0, 255, 0, 0, 40, 97, 0, 0, 60, 0, 50, 1, 10, 0)
	isJoint(t, nulls(1000).L, slices.Repeat([]byte{10}, 1000))
	big := slices.Repeat([]api.Val{text(letters(2045)), manyInts(0)}, 20)
	isJoint(t, big, writtenAll(big))
}

// rises sees to it that After tells those bytes of b.
func rises(t *testing.T, b, want []byte) {
	t.Helper()
	if x, ok := key.After(b); !ok || !slices.Equal(x, want) {
		t.Errorf("After(%s): %s, %t, want %s", shortBytes(b), shortBytes(x), ok, shortBytes(want))
	}
}

// isLast sees to it that After tells that there is nothing above what begins with b.
func isLast(t *testing.T, b []byte) {
	t.Helper()
	if x, ok := key.After(b); ok || len(x) != 0 {
		t.Errorf("After(%s): %s, %t, want none", shortBytes(b), shortBytes(x), ok)
	}
}

// P5.1: After of no bytes, of bytes 255 alone and at the end, of others.
func TestAfter(t *testing.T) {
	isLast(t, nil)
	isLast(t, []byte{})
	for n := range 20 {
		high := slices.Repeat([]byte{255}, n)
		isLast(t, high)
		rises(t, raw(254, high), []byte{255})
		rises(t, raw(0, high), []byte{1})
		rises(t, raw(high, 0), raw(high, 1))
		rises(t, raw(high, 7, 254, high), raw(high, 7, 255))
		rises(t, raw(high, 127, high), raw(high, 128))
		rises(t, raw(high, 128, high), raw(high, 129))
	}
	for c := range 255 {
		rises(t, []byte{byte(c)}, []byte{byte(c + 1)})
		rises(t, []byte{3, byte(c)}, []byte{3, byte(c + 1)})
		rises(t, []byte{byte(c), 255, 255}, []byte{byte(c + 1)})
		rises(t, []byte{byte(c), 254}, []byte{byte(c), 255})
		rises(t, []byte{byte(c), 0}, []byte{byte(c), 1})
	}
	rises(t, []byte("a\ufffd"), []byte("a\ufffe"))
	rises(t, []byte("a\u00ff\xff"), []byte("a\xc3\xc0"))
	isLast(t, slices.Repeat([]byte{255}, 1<<20))
	rises(t, raw(1, slices.Repeat([]byte{255}, 1<<20)), []byte{2})
	rises(t, make([]byte, 1<<20), raw(make([]byte, 1<<20-1), 1))
}
