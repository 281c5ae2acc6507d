package key_test

import (
	"math"
	"math/rand"
	"slices"
	"strings"
	"testing"

	"tidemark/api"
	"tidemark/key"
	"tidemark/sample"
)

// manyInts is a List of 31 Lists of 32 Ints, all but the last one 0: 2048 bytes if that one has one digit of base 128, with nearly as long a key as there is.
func manyInts(last int64) api.Val {
	v := list()
	for range 31 {
		v.L = append(v.L, list(slices.Repeat([]api.Val{number(0)}, 32)...))
	}
	v.L[30].L[31].N = last
	return v
}

// kinds are good values of all kinds, small ones and great ones.
func kinds() []api.Val {
	return []api.Val{
		null, boolean(0), boolean(1), number(0), number(-1), number(math.MinInt64), number(math.MaxInt64),
		text(""), text("a"), text("\x00"), text("a\x00\x00b"), text("\u00e4\x00"),
		list(), list(null), list(list(), doc()), list(text(""), text("\x00"), number(7)), nulls(32), deepLists(8),
		doc(), doc(field("a", null)), doc(field("\x00", boolean(1)), field("a", list(number(5))), field("\u00e4b", text("\u20ac"))), fields(32), deepDocs(8),
		list(doc(field("a", list(doc(field("b", list(null))))))),
	}
}

// P5.1: bytes that are cut off at any place, or have one more, are no key.
func TestCutOffAndLonger(t *testing.T) {
	isNoKey(t)
	for _, v := range kinds() {
		b := written(v)
		isKey(t, v, b)
		for n := range b {
			isNoKey(t, b[:n])
			isNoKey(t, b[:n:n])
			splitsNone(t, b[:n], 1, api.ErrForm)
		}
		for c := range 256 {
			isNoKey(t, b, c)
		}
		isNoKey(t, b, b)
	}
}

// P5.1: each byte that may be but some.
func TestBytesThatMayNotBe(t *testing.T) {
	for c := range 256 {
		if c < 10 || c > 60 || c%10 != 0 {
			for _, rest := range [][]byte{nil, {0}, {0, 0}, {1, 10, 0}} {
				isNoKey(t, c, rest)
				isNoKey(t, 50, 1, c, rest, 0)
				isNoKey(t, 60, 1, "a", 0, 0, c, rest, 0)
			}
		}
		if c > 1 {
			isNoKey(t, 20, c)
			isNoKey(t, 50, 1, 20, c, 0)
			isNoKey(t, 50, c)
			isNoKey(t, 50, c, 10, 0)
			isNoKey(t, 50, 1, 10, c, 10, 0)
			isNoKey(t, 50, 1, 10, c)
			isNoKey(t, 60, c)
			isNoKey(t, 60, c, "a", 0, 0, 10, 0)
			isNoKey(t, 60, 1, "a", 0, 0, 10, c, "b", 0, 0, 10, 0)
			isNoKey(t, 60, 1, "a", 0, 0, 10, c)
		}
		if c > 0 && c < 255 {
			isNoKey(t, 40, 0, c)
			isNoKey(t, 40, 0, c, 0, 0)
			isNoKey(t, 40, "a", 0, c, "b", 0, 0)
			isNoKey(t, 40, 0, 255, 0, c, 0, 0)
			isNoKey(t, 60, 1, "a", 0, c, 10, 0)
			isNoKey(t, 60, 1, "a", 0, c, 0, 0, 10, 0)
		}
	}
	isNoKey(t, 50, 1, 0)
	isNoKey(t, 60, 1, 10, 0)
	isNoKey(t, 60, 1, "a", 0, 0, 0)
	isNoKey(t, 50, 0, 0)
	isNoKey(t, 60, 0, 0)
}

// P5.1: texts and names that are UTF-8, and such that are not.
func TestTexts(t *testing.T) {
	for _, s := range []string{"\u0080", "\u07ff", "\u0800", "\ud7ff", "\ue000", "\ufffd", "\uffff", "\U00010000", "\U0010ffff", "a\u00e4"} {
		isKey(t, text(s), 40, s, 0, 0)
		isKey(t, doc(field(s, null)), 60, 1, s, 0, 0, 10, 0)
	}
	for _, s := range []string{"\xff", "\x80", "a\xc3", "\xc3a", "\xc0\x80", "\xe0\x9f\xbf", "\xed\xa0\x80", "\xf4\x90\x80\x80", "\xf0\x9f\x98", "\xc3\x00\xa4", "\x00\xff"} {
		isBad(t, text(s), api.ErrText)
		isBad(t, doc(field(s, null)), api.ErrText)
		isBad(t, list(null, text(s)), api.ErrText)
		isBad(t, doc(field("a", null), field("b"+s, null)), api.ErrText)
	}
}

// P5.1: names that rise, and such that do not.
func TestNames(t *testing.T) {
	isKey(t, doc(field("a", null), field("aa", null)), 60, 1, "a", 0, 0, 10, 1, "aa", 0, 0, 10, 0)
	isKey(t, doc(field("z", null), field("\u00e4", null)), 60, 1, "z", 0, 0, 10, 1, "\u00e4", 0, 0, 10, 0)
	isKey(t, doc(field("b", doc(field("a", null))), field("c", doc(field("a", null)))), 60, 1, "b", 0, 0, 60, 1, "a", 0, 0, 10, 0, 1, "c", 0, 0, 60, 1, "a", 0, 0, 10, 0, 0)
	for _, names := range [][]string{{"a", "a"}, {"b", "a"}, {"aa", "a"}, {"\u00e4", "z"}, {"a\x00", "a"}, {"\x00\x00", "\x00"}, {"a", "c", "b"}, {"b", "c", "b"}, {"a", "b", "b"}, {"a", "a", "b"}} {
		d := doc()
		for _, name := range names {
			d.F = append(d.F, field(name, null))
		}
		isBad(t, d, api.ErrForm)
		isBad(t, list(d), api.ErrForm)
		isBad(t, doc(field("a", d), field("b", null)), api.ErrForm)
	}
}

// P5.1: each limit just met, and just passed.
func TestLimits(t *testing.T) {
	name := letters(24)
	for _, v := range []api.Val{
		nulls(32), fields(32), list(nulls(32), fields(32)), doc(field("a", nulls(32)), field("b", fields(32))),
		doc(field("n", null)), doc(field(name, null)), doc(field(strings.Repeat("\u00e4", 12), null)), doc(field(strings.Repeat("\x00", 24), null)),
		deepLists(8), deepDocs(8), list(deepLists(7), deepDocs(7)), doc(field("a", deepLists(7)), field("b", deepDocs(7))),
		text(letters(2045)), text(strings.Repeat("\x00", 2045)), text(strings.Repeat("\u00e4", 1022) + "a"),
		list(text(letters(1021)), text(letters(1019))), doc(field(name, text(letters(1000))), field("b", text(strings.Repeat("\x00", 1010)))), manyInts(0), manyInts(63), manyInts(-64),
	} {
		isKey(t, v, written(v))
	}
	for _, v := range []api.Val{
		nulls(33), fields(33), list(nulls(33)), list(null, fields(33)), doc(field("a", nulls(33))),
		doc(field("", null)), doc(field("", null), field("a", null)), doc(field(name+"a", null)), doc(field("a", null), field(name+"a", null)), doc(field(strings.Repeat("\u00e4", 12)+"a", null)), doc(field(strings.Repeat("\x00", 25), null)), list(doc(field("", null))),
	} {
		isBad(t, v, api.ErrLimit)
	}
	for _, v := range []api.Val{
		deepLists(9), deepDocs(9), list(deepLists(7), null, deepDocs(8)), doc(field("a", deepLists(8))), list(doc(field("a", deepDocs(7)))),
	} {
		isBad(t, v, api.ErrDeep)
	}
	for _, v := range []api.Val{
		text(letters(2046)), text(strings.Repeat("\x00", 2046)), text(strings.Repeat("\u00e4", 1023)),
		list(text(letters(1021)), text(letters(1020))), manyInts(64), manyInts(-65), manyInts(math.MinInt64),
		list(text(letters(2046)), null), doc(field("a", text(letters(2042)))),
	} {
		isBad(t, v, api.ErrBig)
	}
}

// P5.1: 2048 bytes of the value are the limit, however long its key is.
func TestBytesInAll(t *testing.T) {
	for n := range 30 {
		for _, v := range []api.Val{
			list(text(letters(2020+n)), number(0)),
			list(text(letters(2011+n)), number(math.MaxInt64)),
			list(text(strings.Repeat("\x00", 1000)), doc(field("a", text(letters(1020))), field("b", nulls(n)))),
			doc(field("a", text(letters(1000))), field("b", text(strings.Repeat("\x00", 1020+n)))),
		} {
			want, e := readAll(written(v), 1)
			if l, f := key.Split(written(v), 1); e != f || showAll(l) != showAll(want) {
				t.Errorf("Split of the key of %s: %d, want %d", short(v), int(f), int(e))
			}
		}
	}
}

// P5.1: Split of n below 0, of none, of fewer and of more than there are.
func TestSplitNumbers(t *testing.T) {
	for _, n := range []int{-1, -2, math.MinInt} {
		for _, b := range [][]byte{nil, {}, {10}, {255}, {20}} {
			splitsNone(t, b, n, api.ErrArg)
		}
	}
	splits(t, nil, nil)
	splits(t, []byte{}, nil)
	splitsNone(t, []byte{10}, 0, api.ErrForm)
	splitsNone(t, []byte{0}, 0, api.ErrForm)
	splitsNone(t, nil, 1, api.ErrForm)
	all := kinds()
	b := writtenAll(all)
	splits(t, b, all)
	for n := range len(all) {
		splitsNone(t, b, n, api.ErrForm)
		splits(t, writtenAll(all[:n]), all[:n])
		splits(t, writtenAll(all[n:]), all[n:])
		splitsNone(t, writtenAll(all[:n]), n+1, api.ErrForm)
		splitsNone(t, writtenAll(all[:n]), n+2, api.ErrForm)
	}
	for _, n := range []int{len(all) + 1, len(all) + 2, 1 << 31, 1 << 40, math.MaxInt} {
		splitsNone(t, b, n, api.ErrForm)
	}
	for _, bad := range [][]byte{{0}, {20, 2}, {50, 2}, {40, 255, 0, 0}, written(deepLists(9)), {40}} {
		splitsNone(t, raw(10, bad, 10), 3, api.ErrForm)
		splitsNone(t, raw(bad, 10, 10), 3, api.ErrForm)
		splitsNone(t, raw(10, 10, bad), 3, api.ErrForm)
	}
	// Spare room is not there to be read.
	splitsNone(t, []byte{20, 1}[:1], 1, api.ErrForm)
	splitsNone(t, []byte{10, 10}[:1], 2, api.ErrForm)
}

// agree holds Back and Split against a reader by another hand; what is read is written as the bytes it was read of. It tells whether b was taken.
func agree(t *testing.T, b []byte, n int) bool {
	t.Helper()
	want, e := readAll(b, n)
	l, f := key.Split(b, n)
	if e != f || showAll(l) != showAll(want) {
		t.Fatalf("Split(%s, %d): %s, %d, want %s, %d", shortBytes(b), n, cut(showAll(l)), int(f), cut(showAll(want)), int(e))
	}
	if f == api.OK {
		if x, e := key.Join(l); e != api.OK || !slices.Equal(x, b) {
			t.Fatalf("Join(%s): %s, %d, but it was read of %s", cut(showAll(l)), shortBytes(x), int(e), shortBytes(b))
		}
	}
	if n == 1 {
		v, f := key.Back(b)
		if e != f || e == api.OK && show(v) != show(want[0]) || e != api.OK && show(v) != show(api.Val{}) {
			t.Fatalf("Back(%s): %s, %d, want %s, %d", shortBytes(b), short(v), int(f), cut(showAll(want)), int(e))
		}
	}
	return f == api.OK
}

// P5.1: all short strings of some bytes.
func TestAllShortBytes(t *testing.T) {
	some := []byte{0, 1, 2, 10, 20, 30, 40, 50, 60, 97, 255}
	b := make([]byte, 0, 5)
	var all func()
	all = func() {
		for n := range 4 {
			agree(t, b, n)
		}
		if len(b) == cap(b) {
			return
		}
		for _, c := range some {
			b = append(b, c)
			all()
			b = b[:len(b)-1]
		}
	}
	all()
}

// P5.1: keys of which one byte is another one, is left out, or stands there twice.
func TestOneByteAnother(t *testing.T) {
	for _, v := range []api.Val{boolean(1), number(-5), text("a\x00\u00e4"), list(null, text("a"), boolean(0)), doc(field("a", number(1)), field("b\x00", list(doc(), null))), list(doc(field("a", text("x"))), list(list()))} {
		b := written(v)
		for i := range b {
			for c := range 256 {
				agree(t, raw(b[:i], c, b[i+1:]), 1)
				agree(t, raw(b[:i], c, b[i:]), 1)
			}
			agree(t, raw(b[:i], b[i+1:]), 1)
		}
	}
}

// P5.1: joint keys with faults put into them by chance.
func TestBytesByChance(t *testing.T) {
	r := rand.New(rand.NewSource(1))
	some := []byte{0, 0, 1, 1, 2, 10, 20, 30, 40, 50, 60, 70, 97, 98, 127, 128, 195, 255}
	taken := 0
	for range 40000 {
		var l []api.Val
		for range r.Intn(4) {
			v := random(r, r.Intn(4))
			for range r.Intn(7) {
				v = list(v)
			}
			l = append(l, v)
		}
		b := writtenAll(l)
		for range r.Intn(4) {
			b = sample.Changed(r, b, some, written(random(r, 2)))
		}
		if agree(t, b, len(l)) {
			taken++
		}
		agree(t, b, 1+r.Intn(3))
	}
	if taken < 5000 || taken > 35000 {
		t.Errorf("%d of 40000 were taken: too few, or too many, to tell anything", taken)
	}
}
