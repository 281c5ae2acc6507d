package doc_test

import (
	"fmt"
	"slices"
	"strings"
	"testing"

	"tidemark/api"
	"tidemark/doc"
	"tidemark/heap"
	"tidemark/json"
	"tidemark/sample"
)

// world is a heap, in a test.
type world struct {
	*testing.T
	heap *heap.Heap
}

// empty is a world without objects.
func empty(t *testing.T, words, slots int) *world {
	t.Helper()
	h, e := heap.New(words, slots)
	w := &world{t, h}
	w.fine(e)
	return w
}

// fine sees to it that calls were not refused.
func (w *world) fine(answers ...api.Errno) {
	w.Helper()
	if i := slices.IndexFunc(answers, func(e api.Errno) bool { return e != api.OK }); i >= 0 {
		w.Fatalf("call %d: %v", i, answers[i])
	}
}

// text shows answers, one behind the other; an Errno as its number.
func text(answers ...any) string {
	for i, x := range answers {
		if e, ok := x.(api.Errno); ok {
			answers[i] = int(e)
		}
	}
	return strings.TrimSuffix(fmt.Sprintln(answers...), "\n")
}

// says sees to it that what was answered, or is seen, is what it should be.
func (w *world) says(what, got string, want ...any) {
	w.Helper()
	if s := text(want...); s != got {
		w.Errorf("%s: %s, want %s", sample.Cut(what), sample.Cut(got), sample.Cut(s))
	}
}

// val is the value of a text.
func val(t *testing.T, s string) api.Val {
	t.Helper()
	v, at, e := json.Parse(s)
	if e != api.OK {
		t.Fatalf("%s: %v at %d", s, e, at)
	}
	return v
}

// object is the handle of a new object.
func (w *world) object(tag int, refs []uint64, scalars ...uint64) uint64 {
	w.Helper()
	x, e := w.heap.Make(tag, len(refs), len(refs)+len(scalars))
	w.fine(e)
	for i, y := range refs {
		w.fine(w.heap.SetRef(x, i, y))
	}
	for i, s := range scalars {
		w.fine(w.heap.SetWord(x, i, s))
	}
	return x
}

// null, name, list and fields are handles of new objects: a Null, the Text of a text of at most 8 bytes, a List, a Doc.
func (w *world) null() uint64                { w.Helper(); return w.object(1, nil) }
func (w *world) list(parts ...uint64) uint64 { w.Helper(); return w.object(5, parts) }
func (w *world) fields(of ...uint64) uint64  { w.Helper(); return w.object(6, of) }
func (w *world) name(s string) uint64        { w.Helper(); return w.object(4, nil, uint64(len(s)), word(s)) }
func (w *world) times(n int, x uint64) uint64 {
	w.Helper()
	return w.list(slices.Repeat([]uint64{x}, n)...)
}
func (w *world) built(v api.Val) uint64             { w.Helper(); return w.taken(doc.Build(w.heap, v)) }
func (w *world) taken(x uint64, e api.Errno) uint64 { w.Helper(); w.fine(e); return x }

// word is the bytes of a text, the first as the least digit by base 256.
func word(s string) uint64 {
	n := uint64(0)
	for i := len(s) - 1; i >= 0; i-- {
		n = 256*n + uint64(s[i])
	}
	return n
}

// freed is a handle that stands for nothing any more.
func (w *world) freed() uint64 {
	w.Helper()
	x, e := w.heap.Table().Make(0)
	w.fine(e, w.heap.Table().Free(x))
	return x
}

// told shows a value that was answered, or the error; beside an error there is none.
func told(v api.Val, e api.Errno) string {
	if s := sample.Show(v); e == api.OK || s != sample.Show(api.Val{}) {
		return text(s, e)
	}
	return text("error", e)
}

// one, step and words show what calls answer.
func one[T any](x T, e api.Errno) string           { return text(x, e) }
func step(x uint64, ok bool, e api.Errno) string   { return text(x, ok, e) }
func words(words, objects int, e api.Errno) string { return text(words, objects, e) }
func (w *world) read(x uint64) string              { return told(doc.Read(w.heap, x)) }
func (w *world) steps(x uint64, s string) string   { return step(doc.Step(w.heap, x, s)) }
func (w *world) reads(what string, x uint64, v api.Val) {
	w.Helper()
	w.says(what, w.read(x), told(v, api.OK))
}

// picture shows all that a heap tells, how it lies too.
func (w *world) picture() string {
	a, t := w.heap.Arena(), w.heap.Table()
	low, high, open := a.Gap()
	s := fmt.Appendln(nil, a.Words(), a.Top(), low, high, open, t.Slots(), t.Count(), t.Live(), w.heap.Graph())
	for at := a.First(); at < a.Top(); at, _ = a.Next(at) {
		head, _ := a.Head(at)
		s = fmt.Append(s, at, head)
		for i := range head.Size {
			word, _ := a.Get(at, i)
			s = fmt.Append(s, " ", word)
		}
	}
	return string(s)
}

// same sees to it that what is done does not change the heap.
func (w *world) same(what string, do func()) {
	w.Helper()
	was := w.picture()
	do()
	if w.picture() != was {
		w.Errorf("%s: the heap is changed", sample.Cut(what))
	}
}

// tree shows an object: its tag, what its refs hold, and its scalars.
func (w *world) tree(x uint64) string {
	w.Helper()
	tag, refs, size, e := w.heap.Head(x)
	w.fine(e)
	s := fmt.Append(nil, tag)
	for i := range refs {
		y, e := w.heap.Ref(x, i)
		w.fine(e)
		s = fmt.Append(s, " <", w.tree(y), ">")
	}
	for i := range size - refs {
		n, e := w.heap.Word(x, i)
		w.fine(e)
		s = fmt.Append(s, " ", n)
	}
	return string(s)
}

// drawn is what tree shows of a value's objects, by another hand; how many words and objects they are.
func drawn(v api.Val) (s string, words, objects int) {
	s, words, objects = fmt.Sprint(v.Kind), 1, 1
	add := func(part api.Val) {
		t, n, k := drawn(part)
		s, words, objects = s+" <"+t+">", words+n+1, objects+k
	}
	put := func(n uint64) { s, words = fmt.Sprint(s, " ", n), words+1 }
	switch v.Kind {
	case api.Bool, api.Int:
		put(uint64(v.N))
	case api.Text:
		put(uint64(len(v.S)))
		for eight := range slices.Chunk([]byte(v.S), 8) {
			put(word(string(eight)))
		}
	case api.List:
		for _, x := range v.L {
			add(x)
		}
	case api.Doc:
		for _, f := range v.F {
			add(sample.Text(f.Name))
			add(f.V)
		}
	}
	return s, words, objects
}

// good are good values of all kinds, and at the edges.
func good() []api.Val {
	l := sample.Nested()
	for n := range 26 {
		l = append(l, sample.Text(sample.Letters(n)), sample.Text("\u00e4\u20ac\U0001f600abcdefghijklmnop"[:9+n%8]), sample.List(sample.Text(sample.Letters(n))))
	}
	for _, n := range sample.Numbers(7, -7, 1<<52) {
		l = append(l, sample.Int(int64(n)))
	}
	return append(l, sample.Bool(0), sample.Bool(1), sample.List(), sample.Doc(), sample.Nulls(1), sample.Nulls(32), sample.Fields(1), sample.Fields(32),
		sample.DeepLists(8), sample.DeepDocs(8), sample.Text(sample.Letters(2045)), sample.Text("\x00"), sample.Text("a\x00\x00"), sample.Text("\x00\x00\x00\x00\x00\x00\x00\x00"),
		sample.Doc(sample.Field(sample.Letters(24), sample.Null())), sample.Doc(sample.Field("\u00e4", sample.Null())), sample.Doc(sample.Field("0", sample.Int(1)), sample.Field("1", sample.Int(2))),
		sample.List(sample.Text(sample.Letters(1021)), sample.Text(sample.Letters(1019))))
}

// maker makes values by chance.
func maker(r sample.Chance) sample.Maker {
	return sample.Maker{
		Chance: r,
		Texts:  []string{"", "a", "abcdefg", "abcdefgh", "abcdefghi", "\u00e4\u20ac", "\x00", sample.Letters(16), sample.Letters(17)},
		Names:  []string{"0", "a", sample.Letters(23) + "z", "b", "c d", "id", "x_1", "\u00e4"},
	}
}
