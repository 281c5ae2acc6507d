package key_test

import (
	"fmt"
	"math"
	"math/rand"
	"runtime"
	"slices"
	"testing"

	"tidemark/api"
	"tidemark/key"
	"tidemark/sample"
)

// R4: what is handed in stays as it is, spare room too, whether it is taken or refused.
func TestListsStay(t *testing.T) {
	values := sample.Nested()
	for _, f := range sample.Bad() {
		values = append(values, f.V)
	}
	for _, v := range values {
		l := []api.Val{sample.WithRoom(v), sample.WithRoom(v), null, null}
		was := sample.ShowRoom(list(l...))
		key.Of(l[0])
		key.Join(l[:2])
		key.Join(l[:0])
		if sample.ShowRoom(list(l...)) != was {
			t.Errorf("%s was changed", short(v))
		}
	}
	for _, v := range values {
		b := raw(v, v, 255, 255, 1, 2)
		was := slices.Clone(b)
		for n := range min(len(b), 100) {
			key.Back(b[:n])
			key.Split(b[:n], 2)
			key.Split(b[:n], -1)
			key.After(b[:n])
			key.After(b[:len(b)-n])
			key.Split(b[:len(b)-n], 2)
		}
		if !slices.Equal(b, was) {
			t.Errorf("the bytes of %s were changed", short(v))
		}
	}
}

// R4: what is answered is new memory, and no two of its lists share any.
func TestAnswersAreNew(t *testing.T) {
	for _, v := range append(sample.Nested(), kinds()...) {
		in := sample.WithRoom(list(v, v, v))
		a, _ := key.Of(in.L[0])
		b, _ := key.Of(in.L[0])
		c, _ := key.Join(in.L)
		d, _ := key.Join(in.L)
		e, _ := key.After(a)
		f, _ := key.After(a)
		x, _ := key.Back(a)
		y, _ := key.Back(a)
		z, _ := key.Split(c, 3)
		w, _ := key.Split(c, 3)
		if !sample.Apart([]api.Val{in, x, y, list(z...), list(w...)}, a, b, c, d, e, f) {
			t.Errorf("%s: answers share memory", short(v))
		}
	}
	for _, b := range [][]byte{{1}, {1, 255}, {1, 255, 255}, {7, 8, 9}} {
		spare := append(make([]byte, 0, 20), b...)
		x, _ := key.After(spare)
		y, _ := key.After(spare)
		if !sample.Apart(nil, spare, x, y) {
			t.Errorf("After(%v): answers share memory", b)
		}
	}
}

// R4: an answer hangs no more on what was handed in.
func TestNothingIsKept(t *testing.T) {
	for _, v := range sample.Nested() {
		in := sample.WithRoom(list(v, v))
		one, _ := key.Of(in.L[0])
		both, _ := key.Join(in.L)
		for _, x := range in.L {
			clear(x.L)
			clear(x.F)
		}
		clear(in.L)
		if !slices.Equal(one, written(v)) || !slices.Equal(both, raw(v, v)) {
			t.Errorf("the key of %s was changed with it", short(v))
		}
		x, _ := key.Back(one)
		l, _ := key.Split(both, 2)
		after, _ := key.After(one)
		was := slices.Clone(after)
		clear(one)
		clear(both)
		if show(x) != show(v) || showAll(l) != showAll([]api.Val{v, v}) || !slices.Equal(after, was) {
			t.Errorf("%s was changed with the bytes it was read of", short(v))
		}
	}
}

// R4: nil and an empty list are one.
func TestEmptyLists(t *testing.T) {
	for _, v := range []api.Val{null, boolean(1), number(7), text("a"), list(), doc()} {
		w := v
		w.L, w.F = []api.Val{}, []api.Field{}
		isKey(t, w, written(v))
	}
	isNoKey(t, []byte{})
	isJoint(t, []api.Val{})
	splits(t, []byte{}, nil)
}

// R1: bytes and values that are great.
func TestVeryGreat(t *testing.T) {
	many := slices.Repeat([]byte{1, 10}, 1<<20)
	isNoKey(t, 50, many, 0)
	isNoKey(t, 50, many)
	isNoKey(t, 60, slices.Repeat([]byte{1, 'a', 0, 0, 10}, 1<<20), 0)
	isNoKey(t, slices.Repeat([]byte{50, 1}, 1<<16))
	isNoKey(t, slices.Repeat([]byte{50, 1}, 1<<16), 10, make([]byte, 1<<16))
	isNoKey(t, slices.Repeat([]byte{60, 1, 'a', 0, 0}, 1<<16), 10, make([]byte, 1<<16))
	isNoKey(t, 40, letters(1<<22), 0, 0)
	isNoKey(t, 40, slices.Repeat([]byte{0, 255}, 1<<22), 0, 0)
	isNoKey(t, 40, letters(1<<22))
	isNoKey(t, slices.Repeat([]byte{255}, 1<<20))
	isNoKey(t, make([]byte, 1<<20))
	hasNone(t, deepLists(1<<16), api.ErrDeep)
	hasNone(t, deepDocs(1<<16), api.ErrDeep)
	hasNone(t, text(letters(1<<24)), api.ErrBig)
	hasNone(t, nulls(1<<20), api.ErrLimit)
	joinsNone(t, api.ErrForm, append(nulls(1<<16).L, api.Val{})...)
	splits(t, slices.Repeat([]byte{10}, 1<<18), nulls(1<<18).L)
	splitsNone(t, slices.Repeat([]byte{10}, 1<<18), 1<<18+1, api.ErrForm)
	splitsNone(t, slices.Repeat([]byte{10}, 1<<18), 1<<18-1, api.ErrForm)
	splitsNone(t, slices.Repeat([]byte{10}, 1<<18), math.MaxInt, api.ErrForm)
}

// R1: bytes that are no good value's take no more room the longer they are.
func TestRoom(t *testing.T) {
	for _, b := range [][]byte{
		raw(50, slices.Repeat([]byte{1, 10}, 1<<20)),
		slices.Repeat([]byte{50, 1}, 1<<20),
		raw(40, letters(1<<22)),
		raw(60, slices.Repeat([]byte{1, 'a', 0, 0, 10}, 1<<20)),
	} {
		var before, after runtime.MemStats
		runtime.ReadMemStats(&before)
		key.Back(b)
		runtime.ReadMemStats(&after)
		if taken := after.TotalAlloc - before.TotalAlloc; taken > 1<<22 {
			t.Errorf("Back(%s): %d bytes of memory", shortBytes(b), taken)
		}
	}
}

// R1, R2, R5: whatever bytes: each call ends, tells nothing beside an error, and tells it again.
func TestAnyBytes(t *testing.T) {
	r := rand.New(rand.NewSource(4))
	likely := []byte{0, 0, 0, 1, 1, 10, 20, 30, 40, 50, 60, 97, 255}
	for range 50000 {
		b := make([]byte, r.Intn(40))
		for i := range b {
			b[i] = likely[r.Intn(len(likely))]
			if r.Intn(10) == 0 {
				b[i] = byte(r.Intn(256))
			}
		}
		n := r.Intn(8) - 2
		tell := func() string {
			v, e := key.Back(b)
			l, f := key.Split(b, n)
			x, ok := key.After(b)
			if e != api.OK && (e != api.ErrForm || show(v) != show(api.Val{})) || f != api.OK && len(l) != 0 || !ok && len(x) != 0 {
				t.Fatalf("%v, %d: something is told beside an error", b, n)
			}
			if f != api.OK && f != api.ErrForm && n >= 0 || n < 0 && f != api.ErrArg {
				t.Fatalf("Split(%v, %d): error %d", b, n, int(f))
			}
			return fmt.Sprint(show(v), int(e), showAll(l), int(f), x, ok)
		}
		if a, c := tell(), tell(); a != c {
			t.Fatalf("%v, %d: %s, then %s", b, n, a, c)
		}
	}
}
