package codec_test

import (
	"fmt"
	"math/rand"
	"slices"
	"testing"

	"tidemark/api"
	"tidemark/codec"
	"tidemark/sample"
	"tidemark/value"
)

// P3.4: Get of Put is the value, GetReply of PutReply the reply; there are as many bytes as value.Size tells.
func TestThereAndBack(t *testing.T) {
	r := rand.New(rand.NewSource(5))
	for range 20000 {
		v := random(r, 4)
		b, e := codec.Put(v)
		if value.Good(v) != api.OK {
			continue
		}
		if n, _ := value.Size(v); e != api.OK || n != len(b) || !slices.Equal(b, written(v)) {
			t.Fatalf("Put of %s: %s, %d; Size %d", short(v), short(b), int(e), n)
		}
		if x, e := codec.Get(b); e != api.OK || show(x) != show(v) {
			t.Fatalf("Get of Put of %s: %s, %d", short(v), short(x), int(e))
		}
		y := randomReply(r)
		b, e = codec.PutReply(y)
		if x, f := codec.GetReply(b); e != api.OK || f != api.OK || showReply(x) != showReply(y) {
			t.Fatalf("GetReply of PutReply of %s: %s, %d, %d", cut(showReply(y)), cut(showReply(x)), int(e), int(f))
		}
	}
}

// P3.4: values one behind the other are told one by one.
func TestOneBehindTheOther(t *testing.T) {
	r := rand.New(rand.NewSource(6))
	for range 500 {
		var l []api.Val
		var b []byte
		for range r.Intn(20) {
			v := random(r, 3)
			l, b = append(l, v), raw(b, v)
		}
		at := 0
		for _, want := range l {
			v, next, e := codec.Take(b, at)
			if e != api.OK || show(v) != show(want) || next != at+len(written(want)) {
				t.Fatalf("Take at %d: %s, %d, %d, want %s", at, short(v), next, int(e), short(want))
			}
			at = next
		}
		if at != len(b) {
			t.Fatalf("%d of %d bytes are told", at, len(b))
		}
		takesNone(t, b, at, api.ErrEnd)
	}
}

// R4: what is handed in stays as it is, spare room too, whether it is taken or refused.
func TestListsStay(t *testing.T) {
	for _, v := range append(sample.Nested(), nulls(40), doc(field("b", list(null)), field("a", null)), list(text("\xff"))) {
		a := withRoom(v)
		r := api.Reply{E: 1, N: 1, Docs: []api.Val{a, withRoom(v), null, null}[:2]}
		was, wasReply := showRoom(a), showRoom(list(r.Docs...))
		codec.Put(a)
		codec.PutReply(r)
		if showRoom(a) != was || showRoom(list(r.Docs...)) != wasReply || show(r.Docs[:4][3]) != show(null) {
			t.Errorf("%s was changed", short(v))
		}
	}
	for _, v := range sample.Nested() {
		b := raw(0, 0, 2, v, v, 1, 2, 3)
		all := slices.Clone(b)
		for n := range b {
			codec.GetReply(b[:n])
			codec.Get(b[n:])
			codec.Get(b[:n])
			codec.Take(b[:n], min(3, n))
			codec.Number(b[:n], n/2)
		}
		if !slices.Equal(b, all) {
			t.Errorf("the bytes of %s were changed", short(v))
		}
	}
}

// R4: what is answered is new memory, and no two of its lists share any.
func TestAnswersAreNew(t *testing.T) {
	for _, v := range sample.Nested() {
		a := withRoom(v)
		b, _ := codec.Put(a)
		c, _ := codec.Put(a)
		x, _ := codec.Get(b)
		y, _ := codec.Get(b)
		z, _, _ := codec.Take(b, 0)
		if !sample.Apart([]api.Val{a, x, y, z}, b, c) {
			t.Errorf("%s: answers share memory", short(v))
		}
		r := api.Reply{Docs: []api.Val{withRoom(v), withRoom(v)}}
		d, _ := codec.PutReply(r)
		f, _ := codec.PutReply(r)
		q, _ := codec.GetReply(d)
		s, _ := codec.GetReply(d)
		if !sample.Apart([]api.Val{list(r.Docs...), list(q.Docs...), list(s.Docs...)}, d, f) {
			t.Errorf("%s: answers of replies share memory", short(v))
		}
	}
	for _, n := range []uint64{0, 1, 300, 1<<64 - 1} {
		if !sample.Apart(nil, codec.Varint(n), codec.Varint(n)) {
			t.Errorf("Varint of %d: answers share memory", n)
		}
	}
}

// R4: an answer hangs no more on what was handed in.
func TestNothingIsKept(t *testing.T) {
	for _, v := range sample.Nested() {
		b := written(v)
		d := raw(0, 0, 2, v, v)
		x, _ := codec.Get(b)
		y, _, _ := codec.Take(d, 3)
		r, _ := codec.GetReply(d)
		clear(b)
		clear(d)
		if show(x) != show(v) || show(y) != show(v) || showReply(r) != showReply(api.Reply{Docs: []api.Val{v, v}}) {
			t.Errorf("%s was changed with the bytes it was read of", short(v))
		}
		a := withRoom(v)
		c, _ := codec.Put(a)
		f, _ := codec.PutReply(api.Reply{Docs: []api.Val{a}})
		clear(a.L)
		clear(a.F)
		if !slices.Equal(c, written(v)) || !slices.Equal(f, raw(0, 0, 1, v)) {
			t.Errorf("the bytes of %s were changed with it", short(v))
		}
	}
}

// R4: nil and an empty list are one.
func TestEmptyLists(t *testing.T) {
	for _, v := range []api.Val{null, boolean(1), number(7), text("a"), list(), doc()} {
		w := v
		w.L, w.F = []api.Val{}, []api.Field{}
		gets(t, written(v), w)
		getsReply(t, raw(0, 0, 1, v), api.Reply{Docs: []api.Val{w}})
	}
	getsReply(t, []byte{0, 0, 0}, api.Reply{Docs: []api.Val{}})
	takesNone(t, []byte{}, 0, api.ErrEnd)
	getsNoReply(t, api.ErrEnd, []byte{})
}

// R1: bytes and values that are great: Lists in Lists as full as they may be, values nested as deep as they may be.
func TestVeryGreat(t *testing.T) {
	b := []byte{1}
	for range 4 {
		b = raw(5, 32, slices.Repeat(b, 32))
	}
	getsNone(t, api.ErrBig, b)
	getsNone(t, api.ErrForm, b[:len(b)-1], 0)
	getsNone(t, api.ErrEnd, b[:len(b)-1])
	getsNoReply(t, api.ErrBig, 0, 0, 1, b)
	getsNone(t, api.ErrDeep, slices.Repeat([]byte{5, 1}, 1<<16))
	getsNone(t, api.ErrForm, slices.Repeat([]byte{255}, 1<<20))
	getsNone(t, api.ErrForm, 3, slices.Repeat([]byte{128}, 1<<20))
	putsNone(t, deepLists(1<<16), api.ErrDeep)
	putsNone(t, text(as(1<<24)), api.ErrBig)
	putsNone(t, nulls(1<<20), api.ErrLimit)
	putsNoReply(t, api.ErrDeep, api.Reply{Docs: []api.Val{deepDocs(1 << 16)}})
	putsNoReply(t, api.ErrArg, api.Reply{Docs: nulls(1 << 20).L})
}

// R1: what is not kept takes no room: bytes that are read for their faults alone need little more than they are.
func TestRoom(t *testing.T) {
	b := []byte{1}
	for range 3 {
		b = raw(5, 32, slices.Repeat(b, 32))
	}
	per := testing.AllocsPerRun(5, func() { codec.Take(b, 0) })
	if most := float64(len(b)) / 20; per > most {
		t.Errorf("%d bytes that are too many: %.0f pieces of memory, want at most %.0f", len(b), per, most)
	}
}

// R1, R2, R5: whatever bytes: each call ends, tells nothing beside an error, and tells it again.
func TestAnyBytes(t *testing.T) {
	r := rand.New(rand.NewSource(7))
	for range 50000 {
		b := make([]byte, r.Intn(40))
		for i := range b {
			b[i] = byte(r.Intn(256) >> r.Intn(8))
		}
		at := r.Intn(len(b)+5) - 2
		tell := func() string {
			n, next, e := codec.Number(b, at)
			v, behind, f := codec.Take(b, at)
			w, g := codec.Get(b)
			x, h := codec.GetReply(b)
			if e != api.OK && (n != 0 || next != 0) || f != api.OK && (behind != 0 || show(v) != show(api.Val{})) || g != api.OK && show(w) != show(api.Val{}) || h != api.OK && showReply(x) != showReply(api.Reply{}) {
				t.Fatalf("%v at %d: something is told beside an error", b, at)
			}
			return fmt.Sprint(n, next, int(e), show(v), behind, int(f), show(w), int(g), showReply(x), int(h))
		}
		if a, c := tell(), tell(); a != c {
			t.Fatalf("%v at %d: %s, then %s", b, at, a, c)
		}
	}
}
