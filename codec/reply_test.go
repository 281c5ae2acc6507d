package codec_test

import (
	"math"
	"math/rand"
	"slices"
	"testing"

	"tidemark/api"
	"tidemark/codec"
)

// getsReply sees to it that b are the bytes of r, and are told by PutReply, too.
func getsReply(t *testing.T, b []byte, want api.Reply) {
	t.Helper()
	if r, e := codec.GetReply(b); e != api.OK || showReply(r) != showReply(want) {
		t.Errorf("GetReply of %s: %s, %d, want %s", short(b), cut(showReply(r)), int(e), cut(showReply(want)))
	}
	if x, e := codec.PutReply(want); e != api.OK || !slices.Equal(x, b) {
		t.Errorf("PutReply of %s: %s, %d, want %s", cut(showReply(want)), short(x), int(e), short(b))
	}
}

func getsNoReply(t *testing.T, want api.Errno, parts ...any) {
	t.Helper()
	b := raw(parts...)
	if r, e := codec.GetReply(b); e != want || showReply(r) != showReply(api.Reply{}) {
		t.Errorf("GetReply of %s: %s, %d, want error %d", short(b), cut(showReply(r)), int(e), int(want))
	}
}

func putsNoReply(t *testing.T, want api.Errno, r api.Reply) {
	t.Helper()
	if b, e := codec.PutReply(r); e != want || len(b) != 0 {
		t.Errorf("PutReply of %s: %s, %d, want error %d", cut(showReply(r)), short(b), int(e), int(want))
	}
}

// P3.3: replies, E, N and the number of Docs from 0 to their limits.
func TestReplies(t *testing.T) {
	for e := range 256 {
		getsReply(t, raw(varint(uint64(e)), 0, 0), api.Reply{E: api.Errno(e)})
	}
	for _, n := range []int{0, 1, 127, 128, 300, 65536, 1<<31 - 2, 1<<31 - 1} {
		getsReply(t, raw(0, varint(uint64(n)), 0), api.Reply{N: n})
		getsReply(t, raw(17, varint(uint64(n)), 1, 2, 1), api.Reply{E: api.ErrEnd, N: n, Docs: []api.Val{boolean(1)}})
	}
	getsReply(t, []byte{255, 1, 255, 255, 255, 255, 7, 0}, api.Reply{E: 255, N: 1<<31 - 1})
	getsReply(t, raw(0, 2, 2, 6, 1, 2, "id", 3, 2, 6, 1, 2, "id", 3, 4), api.Reply{N: 2, Docs: []api.Val{doc(field("id", number(1))), doc(field("id", number(2)))}})
	for n := range 65 {
		r, b := api.Reply{E: 1, N: 2}, []byte{1, 2, byte(n)}
		for i := range n {
			r.Docs = append(r.Docs, list(number(int64(i)), nulls(i%33)))
			b = raw(b, r.Docs[i])
		}
		getsReply(t, b, r)
	}
	full := slices.Repeat([]api.Val{text(as(2045))}, 64)
	getsReply(t, raw(0, 0, 64, slices.Repeat(written(full[0]), 64)), api.Reply{Docs: full})
	deep := []api.Val{deepLists(8), deepDocs(8), deepLists(8)}
	getsReply(t, raw(0, 0, 3, deep[0], deep[1], deep[2]), api.Reply{Docs: deep})
}

// P3.3: what is refused of a reply that is to be put.
func TestPutReplyBad(t *testing.T) {
	for _, e := range []api.Errno{-1, math.MinInt, 256, 257, 1 << 32, math.MaxInt} {
		putsNoReply(t, api.ErrArg, api.Reply{E: e})
		putsNoReply(t, api.ErrArg, api.Reply{E: e, Docs: []api.Val{{}}})
	}
	for _, n := range []int{-1, math.MinInt, 1 << 31, 1<<31 + 1, 1 << 32, math.MaxInt} {
		putsNoReply(t, api.ErrArg, api.Reply{N: n})
		putsNoReply(t, api.ErrArg, api.Reply{N: n, Docs: []api.Val{{}}})
	}
	putsNoReply(t, api.ErrArg, api.Reply{Docs: nulls(65).L})
	putsNoReply(t, api.ErrArg, api.Reply{Docs: nulls(1000).L})
	putsNoReply(t, api.ErrArg, api.Reply{Docs: make([]api.Val, 65)})
	putsNoReply(t, api.ErrForm, api.Reply{Docs: make([]api.Val, 64)})
	bad := []struct {
		e api.Errno
		v api.Val
	}{{api.ErrForm, boolean(2)}, {api.ErrText, text("\xff")}, {api.ErrLimit, nulls(33)}, {api.ErrDeep, deepDocs(9)}, {api.ErrBig, text(as(2046))}}
	for _, a := range bad {
		putsNoReply(t, a.e, api.Reply{Docs: []api.Val{a.v}})
		putsNoReply(t, a.e, api.Reply{Docs: append(nulls(63).L, a.v)})
		for _, b := range bad {
			putsNoReply(t, a.e, api.Reply{Docs: []api.Val{null, a.v, b.v}})
		}
	}
}

// P3.3: what is refused of bytes: varints first, then what they tell, then the values, then bytes that are left.
func TestGetReplyBad(t *testing.T) {
	getsNoReply(t, api.ErrEnd)
	getsNoReply(t, api.ErrEnd, 0)
	getsNoReply(t, api.ErrEnd, 0, 0)
	getsNoReply(t, api.ErrEnd, 128)
	getsNoReply(t, api.ErrEnd, 0, 128)
	getsNoReply(t, api.ErrEnd, 0, 0, 128)
	for _, bad := range [][]byte{{128, 0}, {129, 0}, raw(slices.Repeat([]byte{255}, 9), 2), raw(slices.Repeat([]byte{128}, 9), 0)} {
		getsNoReply(t, api.ErrForm, bad)
		getsNoReply(t, api.ErrForm, bad, 0, 0)
		getsNoReply(t, api.ErrForm, 0, bad)
		getsNoReply(t, api.ErrForm, 0, bad, 0)
		getsNoReply(t, api.ErrForm, 0, 0, bad)
	}
	for _, e := range []uint64{256, 257, 1 << 32, 1 << 63, 1<<64 - 1} {
		getsNoReply(t, api.ErrForm, varint(e), 0, 0)
	}
	for _, n := range []uint64{1 << 31, 1<<31 + 1, 1 << 32, 1 << 63, 1<<64 - 1} {
		getsNoReply(t, api.ErrForm, 0, varint(n), 0)
	}
	for _, n := range []uint64{65, 66, 128, 256, 1 << 32, 1 << 63, 1<<64 - 1} {
		getsNoReply(t, api.ErrForm, 0, 0, varint(n))
		getsNoReply(t, api.ErrForm, 0, 0, varint(n), nulls(100))
	}
	getsNoReply(t, api.ErrForm, 0, 0, 65, slices.Repeat([]byte{1}, 65))
	getsNoReply(t, api.ErrEnd, 0, 0, 64, slices.Repeat([]byte{1}, 63))
	getsNoReply(t, api.ErrForm, 0, 0, 64, slices.Repeat([]byte{1}, 65))
	for _, left := range [][]byte{{0}, {1}, {255, 255}} {
		getsNoReply(t, api.ErrForm, 0, 0, 0, left)
		getsNoReply(t, api.ErrForm, 0, 0, 1, 1, left)
	}
	// A varint that is none is told ahead of one that tells too much.
	getsNoReply(t, api.ErrEnd, 128, 2)
	getsNoReply(t, api.ErrEnd, 128, 2, 0)
	getsNoReply(t, api.ErrEnd, 0, varint(1<<31))
	getsNoReply(t, api.ErrForm, varint(256), 0, 1)
	getsNoReply(t, api.ErrForm, 0, varint(1<<31), 1, 4, 1, 255)
}

// P3.3: Take's errors of the values, the first one's.
func TestGetReplyValues(t *testing.T) {
	bad := []struct {
		e api.Errno
		b []byte
	}{{api.ErrForm, []byte{0}}, {api.ErrForm, []byte{2, 2}}, {api.ErrText, []byte{4, 1, 255}}, {api.ErrLimit, []byte{5, 33}}, {api.ErrDeep, written(deepLists(9))}, {api.ErrBig, []byte{4, 129, 16}}, {api.ErrBig, written(text(as(2046)))}, {api.ErrBig, written(list(text(as(1021)), text(as(1020))))}}
	for _, a := range bad {
		getsNoReply(t, a.e, 0, 0, 1, a.b)
		getsNoReply(t, a.e, 0, 0, 3, deepLists(8), text(as(2045)), a.b)
		getsNoReply(t, a.e, 0, 0, 2, a.b)
		for _, b := range bad {
			getsNoReply(t, a.e, 0, 0, 2, a.b, b.b)
		}
	}
	getsNoReply(t, api.ErrEnd, 0, 0, 1)
	getsNoReply(t, api.ErrEnd, 0, 0, 2, 1)
	getsNoReply(t, api.ErrEnd, 0, 0, 2, 1, 4, 1)
}

// randomReply makes a reply that can be put.
func randomReply(r *rand.Rand) api.Reply {
	x := api.Reply{E: api.Errno(r.Intn(256) >> r.Intn(8)), N: r.Intn(1<<31) >> r.Intn(31)}
	for range r.Intn(5) {
		x.Docs = append(x.Docs, random(r, 3))
	}
	return x
}

// readReply is GetReply by another hand.
func readReply(b []byte) (r api.Reply, e api.Errno) {
	var n [3]uint64
	at := 0
	for i := range n {
		n[i], at, e = readNumber(b, at)
		if e != api.OK {
			return api.Reply{}, e
		}
	}
	if n[0] > 255 || n[1] >= 1<<31 || n[2] > 64 {
		return api.Reply{}, api.ErrForm
	}
	r.E, r.N = api.Errno(n[0]), int(n[1])
	for range n[2] {
		var v api.Val
		v, at, e = readTake(b, at)
		if e != api.OK {
			return api.Reply{}, e
		}
		r.Docs = append(r.Docs, v)
	}
	if at < len(b) {
		return api.Reply{}, api.ErrForm
	}
	return r, api.OK
}

// P3.3, P3.4: bytes of replies with faults put into them by chance; what is read is written as the bytes it was read of.
func TestRepliesByChance(t *testing.T) {
	r := rand.New(rand.NewSource(4))
	read := 0
	for range 30000 {
		b, e := codec.PutReply(randomReply(r))
		if e != api.OK {
			t.Fatalf("PutReply: %d", int(e))
		}
		for range r.Intn(3) {
			b = changed(r, b)
		}
		x, e := codec.GetReply(b)
		want, f := readReply(b)
		if e != f || showReply(x) != showReply(want) {
			t.Fatalf("GetReply of %s: %s, %d, want %s, %d", short(b), cut(showReply(x)), int(e), cut(showReply(want)), int(f))
		}
		if e != api.OK {
			continue
		}
		read++
		if w, e := codec.PutReply(x); e != api.OK || !slices.Equal(w, b) {
			t.Fatalf("PutReply of %s: %s, %d, but it was read of %s", cut(showReply(x)), short(w), int(e), short(b))
		}
	}
	if read < 5000 {
		t.Errorf("%d replies are read: too few to tell anything", read)
	}
}
