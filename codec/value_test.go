package codec_test

import (
	"math"
	"math/rand"
	"slices"
	"strings"
	"testing"

	"tidemark/api"
	"tidemark/codec"
	"tidemark/sample"
	"tidemark/value"
)

// The chapter's examples.
func TestExamples(t *testing.T) {
	gets(t, []byte{3, 1}, number(-1))
	gets(t, []byte{6, 1, 1, 97, 5, 1, 3, 2}, doc(field("a", list(number(1)))))
	writes(t, 300, 172, 2)
	for _, c := range []struct {
		b []byte
		e api.Errno
	}{{[]byte{3, 129, 0}, api.ErrForm}, {[]byte{2, 2}, api.ErrForm}, {[]byte{4, 1}, api.ErrEnd}, {[]byte{1, 1}, api.ErrForm}, {[]byte{5, 33}, api.ErrLimit}} {
		if v, e := codec.Get(c.b); e != c.e || show(v) != show(api.Val{}) {
			t.Errorf("Get of %v: %s, %d, want error %d", c.b, show(v), int(e), int(c.e))
		}
	}
	getsReply(t, []byte{0, 0, 0}, api.Reply{})
	getsReply(t, []byte{0, 0, 1, 1}, api.Reply{Docs: []api.Val{null}})
	getsNoReply(t, api.ErrEnd, 0)
}

// P3.2: the bytes of values of each kind.
func TestBytesOfValues(t *testing.T) {
	gets(t, []byte{1}, null)
	gets(t, []byte{2, 0}, boolean(0))
	gets(t, []byte{2, 1}, boolean(1))
	gets(t, []byte{3, 0}, number(0))
	gets(t, []byte{3, 1}, number(-1))
	gets(t, []byte{3, 2}, number(1))
	gets(t, []byte{3, 126}, number(63))
	gets(t, []byte{3, 127}, number(-64))
	gets(t, []byte{3, 128, 1}, number(64))
	gets(t, []byte{3, 129, 1}, number(-65))
	gets(t, []byte{3, 254, 255, 255, 255, 255, 255, 255, 255, 255, 1}, number(math.MaxInt64))
	gets(t, []byte{3, 255, 255, 255, 255, 255, 255, 255, 255, 255, 1}, number(math.MinInt64))
	gets(t, []byte{4, 0}, text(""))
	gets(t, []byte{4, 1, 0}, text("\x00"))
	gets(t, []byte{4, 2, 195, 164}, text("\u00e4"))
	gets(t, raw(4, 127, as(127)), text(as(127)))
	gets(t, raw(4, 128, 1, as(128)), text(as(128)))
	gets(t, []byte{5, 0}, list())
	gets(t, []byte{5, 3, 1, 5, 0, 6, 0}, list(null, list(), doc()))
	gets(t, []byte{6, 0}, doc())
	gets(t, []byte{6, 2, 1, 97, 6, 0, 2, 97, 97, 2, 0}, doc(field("a", doc()), field("aa", boolean(0))))
	gets(t, []byte{6, 2, 1, 'z', 1, 2, 195, 164, 1}, doc(field("z", null), field("\u00e4", null)))
	gets(t, []byte{5, 2, 6, 1, 1, 97, 5, 1, 5, 1, 2, 1, 3, 2}, list(doc(field("a", list(list(boolean(1))))), number(1)))
	gets(t, []byte{6, 2, 1, 97, 6, 1, 1, 98, 1, 1, 98, 6, 1, 1, 97, 1}, doc(field("a", doc(field("b", null))), field("b", doc(field("a", null)))))
}

// P3.2: Put tells value.Good's errors, each by itself, and the first one of two.
func TestPutBad(t *testing.T) {
	for _, f := range sample.Bad() {
		putsNone(t, f.V, f.E)
	}
}

// P3.2: what stands at each limit is put and taken.
func TestAtTheLimits(t *testing.T) {
	for _, v := range []api.Val{nulls(32), fields(32), doc(field("n", null)), doc(field(as(24), null)), doc(field(strings.Repeat("\u00e4", 12), null)), deepLists(8), deepDocs(8), list(deepLists(7), deepDocs(7)), text(as(2045)), text(strings.Repeat("\u00e4", 1022) + "a"), list(text(as(1021)), text(as(1019))), list(nulls(32), fields(32), text(as(1000)))} {
		gets(t, written(v), v)
	}
}

// P3.2: bytes that end too early, at each place of values of all kinds.
func TestEnds(t *testing.T) {
	for _, v := range []api.Val{null, boolean(1), number(math.MinInt64), text("a\u00e4"), text(as(300)), nulls(32), list(list(), doc()), deepLists(8), deepDocs(8), doc(field("a", list(number(1), boolean(0))), field("\u00e4b", text("\u20ac")))} {
		b := written(v)
		for n := range b {
			getsNone(t, api.ErrEnd, b[:n:n])
			getsNone(t, api.ErrEnd, b[:n])
		}
		gets(t, b, v)
	}
	getsNone(t, api.ErrEnd)
	getsNone(t, api.ErrEnd, 2)
	getsNone(t, api.ErrEnd, 3, 128)
	getsNone(t, api.ErrEnd, 4, 1)
	getsNone(t, api.ErrEnd, 4, varint(2048))
	getsNone(t, api.ErrEnd, 4, varint(2048), as(2047))
	getsNone(t, api.ErrEnd, 5, 32)
	getsNone(t, api.ErrEnd, 5, 129)
	getsNone(t, api.ErrEnd, 6, 1)
	getsNone(t, api.ErrEnd, 6, 1, 24)
	getsNone(t, api.ErrEnd, 6, 1, 24, as(23))
	getsNone(t, api.ErrEnd, 6, 1, 1, "a")
}

// P3.2: each ErrForm by itself.
func TestForms(t *testing.T) {
	for c := range 256 {
		if c < 1 || c > 6 {
			getsNone(t, api.ErrForm, c)
			getsNone(t, api.ErrForm, c, 1, 1)
			getsNone(t, api.ErrForm, 5, 2, 1, c)
			getsNone(t, api.ErrForm, 6, 1, 1, "a", c)
		}
		if c > 1 {
			getsNone(t, api.ErrForm, 2, c)
			getsNone(t, api.ErrForm, 5, 1, 2, c)
		}
	}
	for _, bad := range [][]byte{{128, 0}, {129, 0}, {160, 128, 0}, raw(slices.Repeat([]byte{128}, 9), 0), raw(slices.Repeat([]byte{255}, 9), 2), raw(slices.Repeat([]byte{255}, 9), 129)} {
		getsNone(t, api.ErrForm, 3, bad)
		getsNone(t, api.ErrForm, 4, bad)
		getsNone(t, api.ErrForm, 5, bad)
		getsNone(t, api.ErrForm, 6, bad)
		getsNone(t, api.ErrForm, 6, 1, bad)
	}
	getsNone(t, api.ErrForm, 6, 2, 1, "b", 1, 1, "a", 1)
	getsNone(t, api.ErrForm, 6, 2, 1, "a", 1, 1, "a", 1)
	getsNone(t, api.ErrForm, 6, 2, 2, "aa", 1, 1, "a", 1)
	getsNone(t, api.ErrForm, 6, 2, 2, "\u00e4", 1, 1, "z", 1)
	getsNone(t, api.ErrForm, 6, 3, 1, "a", 1, 1, "c", 1, 1, "b", 1)
	getsNone(t, api.ErrForm, 6, 3, 1, "b", 1, 1, "c", 1, 1, "b", 1)
	getsNone(t, api.ErrForm, 6, 2, 1, "b", doc(field("a", null), field("c", null)), 1, "b", 1)
	getsNone(t, api.ErrForm, 5, 1, 6, 2, 1, "b", 1, 1, "a", 1)
}

// P3.2: each limit just passed, each by itself.
func TestBeyondTheLimits(t *testing.T) {
	for _, n := range []uint64{33, 34, 127, 128, 256, 1 << 16, 1 << 31, 1 << 32, 1<<32 + 1, 1 << 63, 1<<64 - 1} {
		getsNone(t, api.ErrLimit, 5, varint(n))
		getsNone(t, api.ErrLimit, 6, varint(n))
		getsNone(t, api.ErrLimit, 5, 1, 5, varint(n), 1, 1)
		getsNone(t, api.ErrLimit, 6, 1, varint(n), as(40), 1)
	}
	getsNone(t, api.ErrLimit, 6, 1, 0, 1)
	getsNone(t, api.ErrLimit, 6, 1, 25, as(25), 1)
	getsNone(t, api.ErrLimit, 6, 2, 1, "a", 1, 0, 1)
	getsNone(t, api.ErrLimit, nulls(33))
	getsNone(t, api.ErrLimit, fields(33))
	for _, n := range []uint64{2049, 4096, 1 << 14, 1 << 31, 1 << 32, 1<<32 + 1, 1 << 63, 1<<64 - 1} {
		getsNone(t, api.ErrBig, 4, varint(n))
		getsNone(t, api.ErrBig, 5, 1, 4, varint(n), as(3000))
	}
	getsNone(t, api.ErrText, 4, 1, 255)
	getsNone(t, api.ErrText, 4, 2, 192, 128)
	getsNone(t, api.ErrText, 4, 3, 237, 160, 128)
	getsNone(t, api.ErrText, 4, 1, 195, 164)
	getsNone(t, api.ErrText, 6, 1, 1, 255, 1)
	getsNone(t, api.ErrText, 6, 1, 1, 195, 164, 1)
	getsNone(t, api.ErrDeep, slices.Repeat([]byte{5, 1}, 9), 1)
	getsNone(t, api.ErrDeep, slices.Repeat([]byte{6, 1, 1, 'a'}, 9), 1)
	getsNone(t, api.ErrDeep, 5, 2, 1, slices.Repeat([]byte{5, 1, 6, 1, 1, 'a'}, 4), 1)
	getsNone(t, api.ErrDeep, deepLists(9))
	getsNone(t, api.ErrDeep, deepDocs(9))
	getsNone(t, api.ErrDeep, list(deepLists(7), null, deepDocs(8)))
}

// P3.2: more than 2048 bytes in all; what is behind them does not count.
func TestBytesInAll(t *testing.T) {
	for n := 2040; n <= 2048; n++ {
		b := raw(text(as(n)))
		if n <= 2045 {
			gets(t, b, text(as(n)))
			takes(t, raw(7, b, b, 1), 1, text(as(n)), 1+len(b))
		} else {
			getsNone(t, api.ErrBig, b)
			getsNone(t, api.ErrBig, b, 1)
		}
	}
	for n := range 30 {
		v := list(text(as(1000)), doc(field("a", text(as(1000))), field("b", nulls(n))))
		if len(written(v)) <= 2048 {
			gets(t, written(v), v)
		} else {
			getsNone(t, api.ErrBig, v)
		}
		w := list(text(as(1000)), doc(field("a", text(as(1006+n))), field("b", number(1))))
		if len(written(w)) <= 2048 {
			gets(t, written(w), w)
		} else {
			getsNone(t, api.ErrBig, w)
		}
	}
	if a, b := len(written(list(text(as(1021)), text(as(1019))))), len(written(list(text(as(1021)), text(as(1020))))); a != 2048 || b != 2049 {
		t.Errorf("%d and %d bytes: they are to be at the limit and just above", a, b)
	}
	getsNone(t, api.ErrBig, list(text(as(1021)), text(as(1020))))
	big := list(slices.Repeat([]api.Val{text(as(2045))}, 32)...)
	getsNone(t, api.ErrBig, big)
	getsNone(t, api.ErrBig, doc(field("a", big), field("b", big)))
	getsNone(t, api.ErrBig, list(nulls(32), text(as(2048))))
}

// P3.2: bytes with two faults: the one that comes first is told.
func TestTwoFaults(t *testing.T) {
	nine := slices.Repeat([]byte{5, 1}, 9)
	faults := []struct {
		e api.Errno
		b []byte
	}{
		{api.ErrForm, []byte{0}},
		{api.ErrForm, []byte{2, 2}},
		{api.ErrForm, []byte{3, 128, 0}},
		{api.ErrForm, raw(6, 2, 1, "a", 1, 1, "a", 1)},
		{api.ErrLimit, []byte{5, 33}},
		{api.ErrLimit, []byte{6, 1, 0}},
		{api.ErrLimit, []byte{6, 1, 25}},
		{api.ErrBig, []byte{4, 129, 16}},
		{api.ErrText, []byte{4, 1, 255}},
		{api.ErrText, []byte{6, 1, 1, 255, 1}},
		{api.ErrDeep, nine},
	}
	for _, a := range faults {
		for _, b := range faults {
			getsNone(t, a.e, 5, 2, a.b, b.b)
			getsNone(t, a.e, 6, 2, 1, "a", a.b, 1, "b", b.b)
			getsNone(t, a.e, 6, 2, 1, "b", a.b, 1, "a", b.b)
		}
		getsNone(t, a.e, 5, 3, 1, a.b)
		getsNone(t, a.e, 6, 2, 1, "b", a.b, 1, "a", 1)
		getsNone(t, a.e, 5, 2, text(as(2048)), a.b)
		getsNone(t, a.e, 5, 4, text(as(2000)), text(as(2000)), nulls(32), a.b)
	}
	// All bytes being too many is told behind every other fault, an end that comes too early too.
	getsNone(t, api.ErrEnd, 5, 2, text(as(2048)))
	getsNone(t, api.ErrEnd, 5, 3, text(as(2000)), text(as(2000)), 3, 128)
	getsNone(t, api.ErrForm, 6, 2, 1, "b", text(as(2048)), 1, "a", 1)
	getsNone(t, api.ErrForm, 6, 3, 1, "a", text(as(2048)), 1, "c", 1, 1, "b", 1)
	getsNone(t, api.ErrForm, 6, 2, 1, "b", list(text(as(2040)), text(as(2040)), doc(field("a", null))), 1, "b", 1)
	getsNone(t, api.ErrBig, 6, 3, 1, "a", text(as(2048)), 1, "b", doc(field("a", null)), 1, "c", 1)
}

// P3.2: two faults at one place.
func TestFaultsAtOnePlace(t *testing.T) {
	getsNone(t, api.ErrText, 6, 2, 1, "b", 1, 2, "a\xff", 1)
	getsNone(t, api.ErrText, 6, 2, 1, "b", 1, 1, "\x80", 1)
	getsNone(t, api.ErrEnd, 6, 2, 1, "b", 1, 2, "a")
	getsNone(t, api.ErrEnd, 6, 2, 1, "b", 1, 2, "\xff")
	getsNone(t, api.ErrForm, 6, 2, 1, "b", 1, 1, "a")
	getsNone(t, api.ErrForm, 6, 2, 1, "b", 1, 1, "a", 0)
	getsNone(t, api.ErrEnd, 4, 2, "\xff")
	getsNone(t, api.ErrText, 4, varint(2048), as(2047), 255)
	getsNone(t, api.ErrBig, 4, varint(2049), as(2048), 255)
	getsNone(t, api.ErrBig, 4, varint(2049), "\xff")
	getsNone(t, api.ErrLimit, 6, 1, 25, "\xff")
	getsNone(t, api.ErrLimit, 6, 33, 0)
	deep := slices.Repeat([]byte{5, 1}, 8)
	getsNone(t, api.ErrDeep, deep, 5)
	getsNone(t, api.ErrDeep, deep, 6)
	getsNone(t, api.ErrDeep, deep, 5, 33)
	getsNone(t, api.ErrDeep, deep, 6, 128, 0)
	getsNone(t, api.ErrForm, deep, 7)
	getsNone(t, api.ErrEnd, deep)
	getsNone(t, api.ErrEnd, deep, 4)
	gets(t, raw(deep, 4, 0), list(list(list(list(list(list(list(list(text(""))))))))))
}

// P3.2: a place below 0, within, at the end and behind it.
func TestPlaces(t *testing.T) {
	b := []byte{9, 3, 2, 4, 1, 97, 1}
	takes(t, b, 1, number(1), 3)
	takesNone(t, b, 2, api.ErrForm)
	takes(t, b, 3, text("a"), 6)
	takes(t, b, 6, null, 7)
	takesNone(t, b, 0, api.ErrForm)
	takesNone(t, b, 7, api.ErrEnd)
	takesNone(t, nil, 0, api.ErrEnd)
	for _, at := range []int{-1, -7, math.MinInt, 8, 9, math.MaxInt} {
		takesNone(t, b, at, api.ErrArg)
	}
	takesNone(t, nil, 1, api.ErrArg)
	takesNone(t, nil, -1, api.ErrArg)
	// Spare room is not there to be read.
	takesNone(t, b[:6], 6, api.ErrEnd)
	takesNone(t, b[:6], 7, api.ErrArg)
	takesNone(t, b[:5], 3, api.ErrEnd)
}

// P3.2: Get with bytes left; an error of Take's is told ahead of it.
func TestGetLeft(t *testing.T) {
	for _, v := range []api.Val{null, boolean(0), number(300), text("a"), list(), nulls(32), doc(), fields(3), text(as(2045))} {
		for _, left := range [][]byte{{0}, {1}, {255, 255}, written(v)} {
			b := raw(v, left)
			if x, e := codec.Get(b); e != api.ErrForm || show(x) != show(api.Val{}) {
				t.Errorf("Get of %s: %s, %d", short(b), short(x), int(e))
			}
			takes(t, b, 0, v, len(b)-len(left))
		}
	}
	getsNone(t, api.ErrBig, text(as(2046)), 1)
	getsNone(t, api.ErrLimit, 5, 33, 1)
	getsNone(t, api.ErrText, 4, 1, 255, 1)
	getsNone(t, api.ErrDeep, deepLists(9), 1)
}

// agree holds Take and Get of b against another reader; what is read is good, and is written as the bytes it was read of.
func agree(t *testing.T, b []byte, at int) api.Errno {
	t.Helper()
	v, next, e := codec.Take(b, at)
	wantV, wantNext, want := readTake(b, at)
	if e != want || next != wantNext || show(v) != show(wantV) {
		t.Fatalf("Take of %s at %d: %s, %d, %d, want %s, %d, %d", short(b), at, short(v), next, int(e), short(wantV), wantNext, int(want))
	}
	if e == api.OK {
		if g := value.Good(v); g != api.OK {
			t.Fatalf("Take of %s at %d: %s is not good: %d", short(b), at, short(v), int(g))
		}
		if x, e := codec.Put(v); e != api.OK || !slices.Equal(x, b[at:next]) {
			t.Fatalf("Put of %s: %s, %d, but it was read of %s", short(v), short(x), int(e), short(b[at:next]))
		}
	}
	if at == 0 {
		w, f := codec.Get(b)
		if want == api.OK && wantNext < len(b) {
			wantV, want = api.Val{}, api.ErrForm
		}
		if f != want || show(w) != show(wantV) {
			t.Fatalf("Get of %s: %s, %d, want %s, %d", short(b), short(w), int(f), short(wantV), int(want))
		}
	}
	return e
}

// P3.2, P3.4: all short strings of some bytes.
func TestAllShortBytes(t *testing.T) {
	some := []byte{0, 1, 2, 3, 4, 5, 6, 7, 33, 97, 128, 129, 195, 164, 255}
	b := make([]byte, 0, 4)
	var all func()
	all = func() {
		agree(t, b, 0)
		if len(b) == cap(b) {
			return
		}
		for _, c := range some {
			b = append(b, c)
			all()
			b = b[:len(b)-1]
		}
	}
	all()
}

// changed makes some change to bytes, in new memory.
func changed(r *rand.Rand, b []byte) []byte {
	some := []byte{0, 1, 2, 3, 4, 5, 6, 7, 24, 25, 32, 33, 97, 98, 127, 128, 129, 195, 255}
	return sample.Changed(r, b, some, written(random(r, 2)))
}

// P3.2, P3.4: bytes of values with faults put into them by chance.
func TestBytesByChance(t *testing.T) {
	r := rand.New(rand.NewSource(3))
	seen := map[api.Errno]int{}
	for range 60000 {
		v := random(r, r.Intn(5))
		if r.Intn(5) == 0 {
			v = list(null, v, text(as(100*r.Intn(21))))
		}
		for range r.Intn(8) {
			v = list(v)
		}
		b := written(v)
		for range r.Intn(4) {
			b = changed(r, b)
		}
		seen[agree(t, b, 0)]++
		agree(t, b, r.Intn(len(b)+1))
	}
	for _, e := range []api.Errno{api.OK, api.ErrEnd, api.ErrForm, api.ErrLimit, api.ErrBig, api.ErrText, api.ErrDeep} {
		if seen[e] < 20 {
			t.Errorf("error %d is met %d times: too few to tell anything", int(e), seen[e])
		}
	}
}
