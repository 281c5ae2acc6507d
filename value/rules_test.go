package value_test

import (
	"math/rand"
	"strings"
	"testing"
	"unsafe"

	"tidemark/api"
	"tidemark/value"
)

// memory tells where the lists and texts of a value lie, spare room too.
func memory(v api.Val, places [][2]uintptr) [][2]uintptr {
	add := func(at unsafe.Pointer, size uintptr) {
		if size > 0 {
			places = append(places, [2]uintptr{uintptr(at), uintptr(at) + size})
		}
	}
	add(unsafe.Pointer(unsafe.StringData(v.S)), uintptr(len(v.S)))
	add(unsafe.Pointer(unsafe.SliceData(v.L)), uintptr(cap(v.L))*unsafe.Sizeof(api.Val{}))
	add(unsafe.Pointer(unsafe.SliceData(v.F)), uintptr(cap(v.F))*unsafe.Sizeof(api.Field{}))
	for _, x := range v.L {
		places = memory(x, places)
	}
	for _, x := range v.F {
		add(unsafe.Pointer(unsafe.StringData(x.Name)), uintptr(len(x.Name)))
		places = memory(x.V, places)
	}
	return places
}

// overlap tells whether two of the places share memory.
func overlap(places [][2]uintptr) bool {
	for i, p := range places {
		for _, q := range places[i+1:] {
			if p[0] < q[1] && q[0] < p[1] {
				return true
			}
		}
	}
	return false
}

// samples are values, good ones and others, that hold lists in lists.
func samples() []api.Val {
	return []api.Val{
		doc(field("a", list(list(text("x"), number(1)), doc(field("b", list(null)), field("c", text("y"))))), field("b", text("long enough"))),
		doc(field("b", list()), field("a", doc(field("z", null)))),
		doc(field("a", api.Val{Kind: api.Text, S: "s", L: []api.Val{list(null)}, F: []api.Field{field("q", list(null))}})),
		doc(field("a", text("\xff")), field("a", nulls(40))),
		list(doc(field("a", null)), text("x")),
		doc(),
		null,
	}
}

// R4: what is handed in stays as it is, spare room too.
func TestListsStay(t *testing.T) {
	for _, v := range samples() {
		a, b := withRoom(v), withRoom(v)
		was := showRoom(a)
		value.Good(a)
		value.Size(a)
		value.Depth(a)
		value.Count(a)
		value.Hash(a)
		value.Compare(a, b)
		value.Find(a, "a")
		value.Make(a.F)
		value.Make(a.F[:0])
		if showRoom(a) != was || showRoom(b) != was {
			t.Errorf("%s was changed", short(v))
		}
	}
}

// R4: what Find and Make tell is new memory, and no two of its lists share any.
func TestAnswersAreNew(t *testing.T) {
	for _, v := range samples() {
		a := withRoom(v)
		x, _ := value.Find(a, "a")
		y, _ := value.Find(a, "a")
		m, _ := value.Make(a.F)
		n, _ := value.Make(a.F)
		if overlap(memory(n, memory(m, memory(y, memory(x, memory(a, nil)))))) {
			t.Errorf("%s: answers share memory", short(v))
		}
	}
	shared := list(list(null), text("shared"))
	v := doc(field("a", list(shared, shared)), field("b", shared))
	x, _ := value.Find(v, "a")
	m, e := value.Make(v.F)
	if e != api.OK || show(m) != show(v) || show(x) != show(list(shared, shared)) {
		t.Errorf("Make: %s, %d; Find: %s", show(m), int(e), show(x))
	}
	if overlap(memory(x, nil)) || overlap(memory(m, nil)) {
		t.Error("lists of one answer share memory")
	}
}

// R4: an answer hangs no more on what was handed in.
func TestNothingIsKept(t *testing.T) {
	v := withRoom(samples()[0])
	want := show(samples()[0])
	m, _ := value.Make(v.F)
	x, _ := value.Find(v, "a")
	v.F[0].V.L[0].L[0] = null
	v.F[0].V.L[1].F[0].Name = "changed"
	v.F[0].Name = "changed"
	if show(m) != want || show(x) != show(samples()[0].F[0].V) {
		t.Errorf("Make: %s, Find: %s", show(m), show(x))
	}
}

// R1: values nested as deep as they may be at all.
func TestVeryDeep(t *testing.T) {
	for _, v := range []api.Val{deepLists(1 << 16), deepDocs(1 << 16)} {
		isGood(t, v, api.ErrDeep)
		if d, n := value.Depth(v), value.Count(v); d != 1<<16 || n != 1<<16 {
			t.Errorf("Depth %d, Count %d", d, n)
		}
		if c, e := value.Compare(v, v); c != 0 || e != api.ErrDeep {
			t.Errorf("Compare: %d, %d", c, int(e))
		}
		makesNone(t, api.ErrDeep, field("a", v))
		if x, ok := value.Find(doc(field("a", v)), "a"); !ok || value.Depth(x) != 1<<16 {
			t.Errorf("Find: %d, %t", value.Depth(x), ok)
		}
	}
}

// R1: lists and texts that are long.
func TestVeryLong(t *testing.T) {
	isGood(t, nulls(1<<20), api.ErrLimit)
	isGood(t, fields(1<<16), api.ErrLimit)
	isGood(t, text(strings.Repeat("a", 1<<24)), api.ErrBig)
	makesNone(t, api.ErrLimit, fields(1<<16).F...)
	if n := value.Count(list(nulls(1<<16), nulls(1<<16))); n != 3+1<<17 {
		t.Errorf("Count: %d", n)
	}
}

// R1, R2, R5: whatever values: each call ends, tells nothing beside an error, and tells it again.
func TestAnyValues(t *testing.T) {
	r := rand.New(rand.NewSource(7))
	for range 20000 {
		a, b := random(r, 3, true), random(r, 3, true)
		c, e := value.Compare(a, b)
		want := value.Good(a)
		if want == api.OK {
			want = value.Good(b)
		}
		if d, f := value.Compare(a, b); e != want || c != d || e != f || e != api.OK && c != 0 {
			t.Fatalf("Compare of %s and %s: %d, %d, then %d, %d", short(a), short(b), c, int(e), d, int(f))
		}
		v, e := value.Make(a.F)
		if w, f := value.Make(a.F); e != f || show(v) != show(w) || e != api.OK && show(v) != show(api.Val{}) || e == api.OK && value.Good(v) != api.OK {
			t.Fatalf("Make of %s: %s, %d", short(a), short(v), int(e))
		}
		x, ok := value.Find(a, "a")
		if y, again := value.Find(a, "a"); ok != again || show(x) != show(y) || !ok && show(x) != show(api.Val{}) {
			t.Fatalf("Find in %s: %s, %t", short(a), short(x), ok)
		}
		if value.Depth(a) < 0 || value.Count(a) < max(1, value.Depth(a)) {
			t.Fatalf("%s: Depth %d, Count %d", short(a), value.Depth(a), value.Count(a))
		}
	}
}
