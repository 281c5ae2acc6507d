package key_test

import (
	"bytes"
	"cmp"
	"math"
	"math/rand"
	"slices"
	"testing"

	"tidemark/api"
	"tidemark/key"
	"tidemark/value"
)

// rising are values of all kinds, in their order.
func rising() []api.Val {
	return []api.Val{
		null, boolean(0), boolean(1),
		number(math.MinInt64), number(math.MinInt64 + 1), number(-1 << 32), number(-256), number(-255), number(-2), number(-1), number(0), number(1), number(127), number(128), number(255), number(256), number(65535), number(65536), number(1 << 40), number(math.MaxInt64 - 1), number(math.MaxInt64),
		text(""), text("\x00"), text("\x00\x00"), text("\x00\x00\x00"), text("\x00\x01"), text("\x00a"), text("\x00\u00ff"), text("\x01"), text("\x01\x00"), text("\n"), text("a"), text("a\x00"), text("a\x00\x00"), text("a\x00a"), text("a\x01"), text("aa"), text("ab"), text("b"), text("\x7f"), text("\u0080"), text("\u00e4"), text("\u20ac"), text("\ufffd"), text("\U00010000"), text("\U0010ffff"),
		list(), list(null), list(null, null), list(null, list()), list(boolean(1)), list(number(-1)), list(number(1)), list(number(1), number(0)), list(text("")), list(text(""), null), list(text("\x00")), list(text("a")), list(text("a"), text("b")), list(text("a\x00")), list(text("ab")), list(list()), list(list(), null), list(list(null)), list(list(list())), list(doc()), list(doc(), null), list(doc(field("a", null))),
		doc(), doc(field("\x00", doc())), doc(field("\x00\x00", null)), doc(field("\x01", null)), doc(field("a", null)), doc(field("a", null), field("a\x00", null)), doc(field("a", null), field("b", null)), doc(field("a", number(1))), doc(field("a", number(1)), field("b", null)), doc(field("a", number(2))), doc(field("a", list())), doc(field("a", doc())), doc(field("a\x00", null)), doc(field("aa", null)), doc(field("b", number(1))), doc(field("\u00e4", null)),
	}
}

// ordered sees to it that the keys of a and b are ordered as they, and that none is the other one's beginning.
func ordered(t *testing.T, a, b api.Val) {
	t.Helper()
	want, _ := value.Compare(a, b)
	x, _ := key.Of(a)
	y, _ := key.Of(b)
	if bytes.Compare(x, y) != want {
		t.Errorf("%s, %s: keys %s, %s, want %d", short(a), short(b), shortBytes(x), shortBytes(y), want)
	}
	if want != 0 && (bytes.HasPrefix(x, y) || bytes.HasPrefix(y, x)) {
		t.Errorf("%s, %s: of the keys %s, %s one is the other one's beginning", short(a), short(b), shortBytes(x), shortBytes(y))
	}
}

// P5.2: keys are ordered as their values, none is another one's beginning, and Back of Of is the value.
func TestOrder(t *testing.T) {
	l := rising()
	for i, a := range l {
		for k, b := range l {
			if c, _ := value.Compare(a, b); c != cmp.Compare(i, k) {
				t.Errorf("%s, %s: %d", short(a), short(b), c)
			}
			ordered(t, a, b)
			ordered(t, list(a, b), list(b, a))
			ordered(t, doc(field("a", a), field("b", b)), doc(field("a", b), field("b", a)))
		}
		isKey(t, a, written(a))
	}
}

// inOrder compares values one by one, a beginning ahead.
func inOrder(a, b []api.Val) int {
	return slices.CompareFunc(a, b, func(x, y api.Val) int {
		c, _ := value.Compare(x, y)
		return c
	})
}

// joined sees to it that the joint keys of a and b, of as many values, are ordered value by value.
func joined(t *testing.T, a, b []api.Val) {
	t.Helper()
	x, e := key.Join(a)
	y, f := key.Join(b)
	if want := inOrder(a, b); e != api.OK || f != api.OK || bytes.Compare(x, y) != want || want != 0 && (bytes.HasPrefix(x, y) || bytes.HasPrefix(y, x)) {
		t.Errorf("%s, %s: joint keys %s, %s, want %d", cut(showAll(a)), cut(showAll(b)), shortBytes(x), shortBytes(y), want)
	}
}

// P5.2: joint keys of as many values go value by value.
func TestJointOrder(t *testing.T) {
	l := rising()
	joined(t, nil, nil)
	for _, a := range l {
		for _, b := range l {
			joined(t, []api.Val{a}, []api.Val{b})
			joined(t, []api.Val{a, b}, []api.Val{b, a})
			joined(t, []api.Val{a, null}, []api.Val{b, doc()})
			joined(t, []api.Val{a, doc()}, []api.Val{b, null})
			joined(t, []api.Val{null, a, b}, []api.Val{null, a, a})
			joined(t, []api.Val{a, b, text("\x00")}, []api.Val{a, b, text("")})
		}
	}
}

// P5.2: so for values made by chance.
func TestOrderByChance(t *testing.T) {
	r := rand.New(rand.NewSource(2))
	seen := map[int]int{}
	for range 20000 {
		depth := r.Intn(4)
		a, b := random(r, depth), random(r, depth)
		if b.Kind != a.Kind && r.Intn(2) == 0 {
			b = list(a, b)
			a = list(a, random(r, depth))
		}
		if value.Good(a) != api.OK || value.Good(b) != api.OK {
			continue
		}
		c, _ := value.Compare(a, b)
		seen[c]++
		ordered(t, a, b)
		joined(t, []api.Val{a, b}, []api.Val{a, a})
		joined(t, []api.Val{a, a, b}, []api.Val{b, a, a})
		if t.Failed() {
			return
		}
	}
	for c := -1; c <= 1; c++ {
		if seen[c] < 500 {
			t.Errorf("%d is met %d times: too few to tell anything", c, seen[c])
		}
	}
}

// P5.2: Back of Of is the value, Split of Join are the values.
func TestThereAndBack(t *testing.T) {
	r := rand.New(rand.NewSource(3))
	for range 10000 {
		var l []api.Val
		for range r.Intn(6) {
			if v := random(r, r.Intn(5)); value.Good(v) == api.OK {
				l = append(l, v)
				isKey(t, v, written(v))
			}
		}
		isJoint(t, l, writtenAll(l))
		if t.Failed() {
			return
		}
	}
}

// P5.1: After of b is above all bytes that begin with b, and none between is left out.
func TestAfterIsLeast(t *testing.T) {
	some := []byte{0, 1, 127, 128, 254, 255}
	all := [][]byte{nil}
	for i := 0; i < len(all) && len(all[i]) < 3; i++ {
		for _, c := range some {
			all = append(all, raw(all[i], int(c)))
		}
	}
	for _, b := range all {
		after, ok := key.After(b)
		for _, x := range all {
			above := bytes.Compare(x, b) > 0 && !bytes.HasPrefix(x, b)
			if !ok && above || ok && above != (bytes.Compare(x, after) >= 0) {
				t.Errorf("After(%v): %v, %t; but %v", b, after, ok, x)
			}
		}
		if long := raw(b, bytes.Repeat([]byte{255}, 9)); ok && bytes.Compare(long, after) >= 0 {
			t.Errorf("After(%v): %v is not above %v", b, after, long)
		}
		if ok && after[len(after)-1] == 0 {
			t.Errorf("After(%v): %v is not the least one", b, after)
		}
	}
}

// P5.1, P5.2: the keys that begin with a joint key are those from it on to below After of it.
func TestRangeOfAJointKey(t *testing.T) {
	l := rising()
	for _, a := range l {
		low, _ := key.Join([]api.Val{a})
		high, ok := key.After(low)
		if !ok {
			t.Fatalf("After of the key of %s: none", short(a))
		}
		for _, b := range l {
			x, _ := key.Join([]api.Val{b, a})
			within := bytes.Compare(x, low) >= 0 && bytes.Compare(x, high) < 0
			if c, _ := value.Compare(a, b); within != (c == 0) {
				t.Errorf("%s ahead of %s: %t", short(b), short(a), within)
			}
		}
	}
}
