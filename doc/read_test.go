package doc_test

import (
	"testing"

	"tidemark/api"
	"tidemark/doc"
	"tidemark/sample"
)

// refuses sees to it that x is no value's object: Read, Copy, Compare and Hash tell this error, and change nothing.
func (w *world) refuses(what string, x uint64, e api.Errno) {
	w.Helper()
	null := w.null()
	w.same(what, func() {
		w.says(what, w.read(x), "error", e)
		w.says(what+", Copy", one(doc.Copy(w.heap, x)), 0, e)
		w.says(what+", Compare", one(doc.Compare(w.heap, x, null)), 0, e)
		w.says(what+", Compare", one(doc.Compare(w.heap, null, x)), 0, e)
		w.says(what+", Hash", one(doc.Hash(w.heap, x)), 0, e)
	})
}

// P12.1: Read tells what objects mean, whoever made them.
func TestRead(t *testing.T) {
	w := empty(t, 5000, 900)
	null, a, b := w.null(), w.name("a"), w.name("b")
	all := uint64(1<<64 - 1)
	for _, c := range []struct {
		x uint64
		s string
	}{
		{null, `null`}, {w.object(2, nil, 0), `false`}, {w.object(2, nil, 1), `true`},
		{w.object(3, nil, 0), `0`}, {w.object(3, nil, 7), `7`}, {w.object(3, nil, all), `-1`},
		{w.object(3, nil, 1<<63), `-9223372036854775808`}, {w.object(3, nil, 1<<63-1), `9223372036854775807`},
		{w.object(4, nil, 0), `""`}, {a, `"a"`}, {w.object(4, nil, 8, word("abcdefgh")), `"abcdefgh"`}, {w.object(4, nil, 1, 0), `"\u0000"`},
		{w.object(4, nil, 9, word("abcdefgh"), 0), `"abcdefgh\u0000"`}, {w.object(4, nil, 2, word("ä")), `"ä"`},
		{w.list(), `[]`}, {w.list(null), `[null]`}, {w.list(a, null), `["a",null]`}, {w.times(3, w.list(a)), `[["a"],["a"],["a"]]`},
		{w.fields(), `{}`}, {w.fields(a, null), `{"a":null}`}, {w.fields(a, a, b, a), `{"a":"a","b":"a"}`}, {w.fields(a, w.fields(a, w.list(b))), `{"a":{"a":["b"]}}`},
	} {
		w.reads(c.s, c.x, val(t, c.s))
	}
	w.reads("32 nulls", w.times(32, null), sample.Nulls(32))
}

// P12.1: Read of what Build made is the value.
func TestReadBuilt(t *testing.T) {
	w := empty(t, 60000, 9000)
	for _, v := range append(good(), good()...) {
		x := w.built(v)
		w.same(sample.Short(v), func() { w.reads(sample.Short(v), x, v) })
	}
}

// P12.1: handles that are not live, and parts that are not.
func TestReadStale(t *testing.T) {
	w := empty(t, 5000, 900)
	null, a, b, gone := w.null(), w.name("a"), w.name("b"), w.freed()
	for _, x := range []uint64{0, 1, 99, gone, 1 << 32, null + 1<<32, 1<<64 - 1, null | 1<<31} {
		w.refuses("a handle", x, api.ErrStale)
	}
	for what, x := range map[string]uint64{
		"0 in a list":      w.list(null, 0),
		"0 as a value":     w.fields(a, 0),
		"0 as a name":      w.fields(0, null),
		"0 as both":        w.fields(0, 0),
		"0 deep within":    w.list(null, w.fields(a, null, b, w.list(w.list(), w.list(null, 0)))),
		"0 behind a field": w.fields(a, null, 0, null),
	} {
		w.refuses(what, x, api.ErrStale)
	}
	v := val(t, `{"a":[1,"x",{"b":[]}],"c":true}`)
	_, _, objects := drawn(v)
	for i := range objects {
		w := empty(t, 100, 30)
		x := w.built(v)
		w.fine(w.heap.Table().Free(w.heap.Table().Live()[i]))
		w.refuses("a value of which an object is gone", x, api.ErrStale)
	}
}

// P12.1: objects that no value has.
func TestReadForm(t *testing.T) {
	w := empty(t, 60000, 9000)
	null, a, b, long := w.null(), w.name("a"), w.name("b"), w.built(sample.Text(sample.Letters(25)))
	one := []uint64{null}
	for what, x := range map[string]uint64{
		"a null with a word": w.object(1, nil, 0), "a null with a ref": w.object(1, one),
		"a bool of 2": w.object(2, nil, 2), "a bool of -1": w.object(2, nil, 1<<64-1), "a bool of 2^63 + 1": w.object(2, nil, 1<<63+1), "a bool of 256": w.object(2, nil, 256),
		"a bool without a word": w.object(2, nil), "a bool of two words": w.object(2, nil, 1, 0), "a bool with a ref": w.object(2, one), "a bool with a word and a ref": w.object(2, one, 1),
		"an int without a word": w.object(3, nil), "an int of two words": w.object(3, nil, 5, 0), "an int with a ref": w.object(3, one), "an int with a word and a ref": w.object(3, one, 5), "an int with a word and a text": w.object(3, []uint64{a}, 5), "a bool like a doc": w.object(2, []uint64{a, null}, 1),
		"a text without words": w.object(4, nil), "a text of 0 with a word": w.object(4, nil, 0, 0), "a text of 1 without": w.object(4, nil, 1), "a text of 1 with two": w.object(4, nil, 1, 97, 0),
		"a text of 8 with two": w.object(4, nil, 8, word("abcdefgh"), 0), "a text of 9 with one": w.object(4, nil, 9, word("abcdefgh")), "a text of 7 that is 8": w.object(4, nil, 7, word("abcdefgh")),
		"a text that is not filled up": w.object(4, nil, 1, 97+256), "a text with a bit at its end": w.object(4, nil, 1, 97+1<<63), "a text of 9 with a bit at its end": w.object(4, nil, 9, 0, 1<<8),
		"a text with a ref": w.object(4, one, 1, 97), "a text with a ref alone": w.object(4, one), "a text with a ref and 0": w.object(4, one, 0), "a text with a text": w.object(4, []uint64{a}, 1, 97),
		"a text of very many": w.object(4, nil, 1<<63, 97), "a text of all": w.object(4, nil, 1<<64-1), "a text of 2^64 - 7": w.object(4, nil, 1<<64-7), "a text of 2^61 + 1": w.object(4, nil, 1<<61+1, 97), "a text of 2^32 + 1": w.object(4, nil, 1<<32+1, 97),
		"a text that is none": w.object(4, nil, 1, 255), "a text that is cut": w.object(4, nil, 1, 0xc3), "a half": w.object(4, nil, 3, word("\xed\xa0\x80")),
		"a list with a word": w.object(5, one, 1), "a list with a word alone": w.object(5, nil, 0), "a list of 33": w.times(33, null), "a list of 4096": w.times(4096, null),
		"a doc of one ref": w.fields(a), "a doc of three refs": w.fields(a, null, b), "a doc with a word": w.object(6, []uint64{a, null}, 0), "a doc with a word alone": w.object(6, nil, 0), "a doc with a ref and a word": w.object(6, []uint64{a}, 0),
		"names that fall": w.fields(b, null, a, null), "names that are the same": w.fields(a, null, a, null), "other names that are the same": w.fields(a, null, w.name("a"), null), "a name of no bytes": w.fields(w.object(4, nil, 0), null),
		"a name of 25 bytes": w.fields(long, null), "a name that is no text": w.fields(w.name("\xff"), null), "a null as a name": w.fields(null, null), "an int as a name": w.fields(w.object(3, nil, 1), null), "a list as a name": w.fields(w.list(), null),
		"a doc as a name": w.fields(w.fields(), null), "a name that is not filled up": w.fields(w.object(4, nil, 1, 97+1<<62), null), "a tag as a name": w.fields(w.object(7, nil), null), "a second name that is none": w.fields(a, null, null, null),
		"tag 7": w.object(7, nil), "tag 20": w.object(20, nil), "tag 255": w.object(255, one, 1), "tag 7 like an int": w.object(7, nil, 1), "tag 7 like a list": w.object(7, one),
		"a bad part": w.list(null, w.object(2, nil, 2)), "a bad field": w.fields(a, w.object(8, nil)), "a bad part deep within": w.list(w.fields(a, w.list(null, w.fields(b, w.object(3, nil))))),
	} {
		w.refuses(what, x, api.ErrForm)
	}
}

// P12.1: objects that hold themselves.
func TestReadRings(t *testing.T) {
	w := empty(t, 5000, 900)
	a := w.name("a")
	list, fields, first, named := w.list(0), w.fields(a, 0), w.list(w.null(), 0), w.fields(a, 0)
	second := w.fields(a, first)
	w.fine(w.heap.SetRef(list, 0, list), w.heap.SetRef(fields, 1, fields), w.heap.SetRef(first, 1, second), w.heap.SetRef(named, 0, named), w.heap.SetRef(named, 1, a))
	for _, x := range []uint64{list, fields, first, second, named, w.list(list), w.fields(a, second), w.times(32, list)} {
		w.refuses("a ring", x, api.ErrForm)
	}
	wide := w.times(32, 0)
	for i := range 32 {
		w.fine(w.heap.SetRef(wide, i, wide))
	}
	w.refuses("a wide ring", wide, api.ErrForm)
}

// P12.1: how deep Lists and Docs may stand within one another.
func TestReadDeep(t *testing.T) {
	w := empty(t, 5000, 900)
	a, lists, docs, both := w.name("a"), w.null(), w.null(), w.null()
	wantLists, wantDocs, wantBoth := sample.Null(), sample.Null(), sample.Null()
	for depth := 1; depth < 40; depth++ {
		lists, docs, both = w.list(lists), w.fields(a, docs), w.list(w.null(), w.fields(a, both))
		wantLists, wantDocs, wantBoth = sample.List(wantLists), sample.Doc(sample.Field("a", wantDocs)), sample.List(sample.Null(), sample.Doc(sample.Field("a", wantBoth)))
		if depth > 8 {
			w.refuses("lists too deep", lists, api.ErrForm)
			w.refuses("docs too deep", docs, api.ErrForm)
		} else {
			w.reads("lists", lists, wantLists)
			w.reads("docs", docs, wantDocs)
		}
		if depth > 4 {
			w.refuses("both too deep", both, api.ErrForm)
		} else {
			w.reads("both", both, wantBoth)
		}
	}
}

// P12.1: how many bytes a value may have, if objects are held over and over, too.
func TestReadBig(t *testing.T) {
	w := empty(t, 60000, 900)
	most := make([]uint64, 257)
	most[0] = 2045
	for i := range 2045 {
		most[1+i/8] = most[1+i/8] + 97<<(i%8*8)
	}
	w.reads("the longest text", w.object(4, nil, most...), sample.Text(sample.Letters(2045)))
	most[0], most[256] = 2046, most[256]+97<<40
	w.refuses("one byte more", w.object(4, nil, most...), api.ErrForm)
	for _, n := range []int{2048, 2049, 2050, 5000, 32760} {
		words := make([]uint64, 1+(n+7)/8)
		words[0] = uint64(n)
		w.refuses("much more", w.object(4, nil, words...), api.ErrForm)
	}
	// A Text of 61 bytes has 63, so that 32 of them, and their List, have 2018.
	x, v := w.built(sample.Text(sample.Letters(61))), sample.Text(sample.Letters(61))
	l := sample.List()
	for range 32 {
		l.L = append(l.L, v)
	}
	w.reads("one text 32 times", w.times(32, x), l)
	more := func(n int) (uint64, api.Val) {
		s := sample.Text(sample.Letters(n))
		return w.list(w.times(32, x), w.built(s)), sample.List(l, s)
	}
	y, u := more(26)
	w.reads("as many bytes as there may be", y, u)
	y, _ = more(27)
	w.refuses("one byte more", y, api.ErrForm)
	null, wide := w.null(), w.null()
	for depth := 1; depth <= 8; depth++ {
		wide = w.times(32, wide)
		if depth > 2 {
			w.refuses("a wide list", wide, api.ErrForm)
		}
	}
	w.reads("1020 nulls", w.times(30, w.times(32, null)), nulls(30, 32))
	w.refuses("62 lists", w.list(w.times(32, w.times(32, null)), w.times(31, w.times(32, null))), api.ErrForm)
}

// nulls is a List of n Lists of k Nulls.
func nulls(n, k int) api.Val {
	l := sample.List()
	for range n {
		l.L = append(l.L, sample.Nulls(k))
	}
	return l
}

// R4: what is told is new memory, each time, and no two of its lists share any.
func TestToldIsNew(t *testing.T) {
	w := empty(t, 50000, 9000)
	for _, v := range good() {
		x := w.built(v)
		a, e := doc.Read(w.heap, x)
		b, f := doc.Read(w.heap, x)
		w.fine(e, f)
		if !sample.Apart([]api.Val{a, b}) {
			t.Errorf("%s: lists share memory", sample.Short(v))
		}
		w.reads("the value", x, v)
	}
	shared := w.times(5, w.list(w.null(), w.null()))
	a, e := doc.Read(w.heap, shared)
	w.fine(e)
	if !sample.Apart([]api.Val{a}) {
		t.Error("lists of one object share memory")
	}
}
