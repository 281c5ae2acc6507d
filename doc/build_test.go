package doc_test

import (
	"math"
	"math/rand"
	"testing"

	"tidemark/api"
	"tidemark/doc"
	"tidemark/sample"
)

// The examples of chapter 12.
func TestExamples(t *testing.T) {
	w := empty(t, 5, 9)
	w.says("null", words(doc.Words(val(t, `null`))), 1, 1, api.OK)
	w.says("abcdefghi", words(doc.Words(val(t, `"abcdefghi"`))), 4, 1, api.OK)
	w.says("a doc", words(doc.Words(val(t, `{"a":[1]}`))), 10, 4, api.OK)
	w.says("a doc in 5 words", one(doc.Build(w.heap, val(t, `{"a":[1]}`))), 0, api.ErrFull)
	x, e := doc.Build(w.heap, val(t, `"a"`))
	w.says("a text in 5 words", text(x != 0, e), true, api.OK)
	w.reads("the text", x, val(t, `"a"`))
}

// P12.1: how many words and objects values of each kind are.
func TestWords(t *testing.T) {
	w := empty(t, 1, 1)
	for _, c := range []struct {
		s              string
		words, objects int
	}{
		{`null`, 1, 1}, {`false`, 2, 1}, {`true`, 2, 1}, {`0`, 2, 1}, {`-7`, 2, 1}, {`9223372036854775807`, 2, 1},
		{`""`, 2, 1}, {`"a"`, 3, 1}, {`"abcdefg"`, 3, 1}, {`"abcdefgh"`, 3, 1}, {`"abcdefghi"`, 4, 1},
		{`"abcdefghijklmnop"`, 4, 1}, {`"abcdefghijklmnopq"`, 5, 1}, {`"äöü€"`, 4, 1},
		{`[]`, 1, 1}, {`{}`, 1, 1}, {`[null]`, 3, 2}, {`[[]]`, 3, 2}, {`[1,2]`, 7, 3}, {`[[],[null]]`, 7, 4},
		{`{"a":null}`, 7, 3}, {`{"abcdefghi":null}`, 8, 3}, {`{"a":{}}`, 7, 3}, {`{"a":1,"b":"x"}`, 16, 5}, {`[null,{"ab":null}]`, 11, 5},
	} {
		w.says(c.s, words(doc.Words(val(t, c.s))), c.words, c.objects, api.OK)
	}
	w.says("the longest text", words(doc.Words(sample.Text(sample.Letters(2045)))), 258, 1, api.OK)
	w.says("32 nulls", words(doc.Words(sample.Nulls(32))), 65, 33, api.OK)
	w.says("32 fields", words(doc.Words(sample.Fields(32))), 193, 65, api.OK)
	w.says("8 lists", words(doc.Words(sample.DeepLists(8))), 15, 8, api.OK)
	w.says("8 docs", words(doc.Words(sample.DeepDocs(8))), 43, 15, api.OK)
}

// P12.1: Good's error, whatever the room; Good's is told ahead of ErrFull; nothing is made.
func TestNotGood(t *testing.T) {
	for _, room := range []int{1, 60000} {
		w := empty(t, room, room)
		w.object(1, nil)
		for _, f := range sample.Bad() {
			what := sample.Short(f.V)
			w.says(what, words(doc.Words(f.V)), 0, 0, f.E)
			w.same(what, func() { w.says(what, one(doc.Build(w.heap, f.V)), 0, f.E) })
		}
	}
}

// P12.1: a value's objects, word by word.
func TestObjects(t *testing.T) {
	w := empty(t, 5000, 1000)
	for _, c := range []struct{ s, tree string }{
		{`null`, "1"},
		{`false`, "2 0"}, {`true`, "2 1"},
		{`0`, "3 0"}, {`5`, "3 5"}, {`-1`, "3 18446744073709551615"}, {`-7`, "3 18446744073709551609"},
		{`9223372036854775807`, "3 9223372036854775807"}, {`-9223372036854775808`, "3 9223372036854775808"},
		{`""`, "4 0"}, {`"a"`, "4 1 97"}, {`"ab"`, "4 2 25185"}, {`"ä"`, "4 2 42179"}, {`"\u0000"`, "4 1 0"},
		{`"abcdefg"`, "4 7 29104508263162465"}, {`"abcdefgh"`, "4 8 7523094288207667809"},
		{`"abcdefghi"`, "4 9 7523094288207667809 105"},
		{`"abcdefghabcdefgh"`, "4 16 7523094288207667809 7523094288207667809"},
		{`"abcdefghabcdefgha"`, "4 17 7523094288207667809 7523094288207667809 97"},
		{`[]`, "5"}, {`[null]`, "5 <1>"}, {`[1,true,"a"]`, "5 <3 1> <2 1> <4 1 97>"}, {`[[[]],[2]]`, "5 <5 <5>> <5 <3 2>>"},
		{`{}`, "6"}, {`{"a":null}`, "6 <4 1 97> <1>"}, {`{"a":[1]}`, "6 <4 1 97> <5 <3 1>>"},
		{`{"a":1,"b":{"c":-2},"d":[]}`, "6 <4 1 97> <3 1> <4 1 98> <6 <4 1 99> <3 18446744073709551614>> <4 1 100> <5>"},
		{`{"abcdefghi":"abcdefghi"}`, "6 <4 9 7523094288207667809 105> <4 9 7523094288207667809 105>"},
	} {
		w.says(c.s, w.tree(w.built(val(t, c.s))), c.tree)
	}
	w.fine(w.heap.Check())
}

// P12.1: the bytes of a text stand where they should, whatever they are.
func TestBytes(t *testing.T) {
	w := empty(t, 60000, 1000)
	for _, n := range []int{1, 7, 8, 9, 15, 16, 17, 64} {
		for at := range n {
			for _, c := range []string{"\x01", "\x7f", "\x00"} {
				s := sample.Letters(at) + c + sample.Letters(n-at-1)
				want, _, _ := drawn(sample.Text(s))
				w.says(s, w.tree(w.built(sample.Text(s))), want)
			}
		}
	}
}

// fits sees to it that v is refused with one free word, and with one free slot too few, so that nothing is made, and is
// built where there are just as many. Other things have been there, and are: so many words and slots.
func fits(t *testing.T, v api.Val, busy int) {
	t.Helper()
	want, n, k := drawn(v)
	what := sample.Short(v)
	for _, c := range []struct {
		words, slots int
		e            api.Errno
	}{{n - 1, k, api.ErrFull}, {n, k - 1, api.ErrFull}, {n - 1, k - 1, api.ErrFull}, {n, k, api.OK}, {n + 1, k, api.OK}, {n, k + 1, api.OK}, {n - 1, 5000, api.ErrFull}, {5000, k - 1, api.ErrFull}} {
		if c.words+busy == 0 || c.slots+busy == 0 {
			continue
		}
		w := empty(t, busy+c.words, busy+c.slots)
		for range busy {
			w.fine(w.heap.SetRoot(0, w.null()))
		}
		if c.e != api.OK {
			w.same(what, func() { w.says(what, one(doc.Build(w.heap, v)), 0, c.e) })
			continue
		}
		x := w.built(v)
		w.says(what, w.tree(x), want)
		w.says(what, text(w.heap.Arena().Top(), w.heap.Table().Count()), busy+n, busy+k)
		w.fine(w.heap.Check())
		w.same(what, func() {
			w.says("Build where there is no room", one(doc.Build(w.heap, sample.Fields(9))), 0, api.ErrFull)
		})
	}
}

// P12.1, P12.3: Build takes just so many words and slots as Words tells, and is refused with fewer.
func TestFits(t *testing.T) {
	for _, v := range good() {
		_, n, k := drawn(v)
		empty(t, 1, 1).says(sample.Short(v), words(doc.Words(v)), n, k, api.OK)
		for _, busy := range []int{0, 1, 5} {
			fits(t, v, busy)
		}
	}
}

// R3: where Build was refused, the next handles are those that they would be without it.
func TestRefusedTakesNoSlot(t *testing.T) {
	a, b := empty(t, 40, 7), empty(t, 40, 7)
	for _, w := range []*world{a, b} {
		for range 3 {
			x := w.null()
			w.fine(w.heap.Table().Free(x))
		}
		w.null()
	}
	for _, v := range []api.Val{sample.Nulls(8), sample.Text(sample.Letters(400)), sample.Bool(2), sample.Fields(3)} {
		if _, e := doc.Build(a.heap, v); e == api.OK {
			t.Fatalf("%s is built", sample.Short(v))
		}
	}
	v := val(t, `[1,{"a":"b"}]`)
	a.says("the handle", text(a.built(v)), b.built(v))
	a.says("what they tell", a.picture(), b.picture())
}

// P12.1: each Build makes new objects, of which none is another one's, and changes none that is there.
func TestNewObjects(t *testing.T) {
	w := empty(t, 100000, 20000)
	var l []uint64
	for range 3 {
		for _, v := range good() {
			was := w.heap.Table().Live()
			x := w.built(v)
			l = append(l, x)
			_, _, k := drawn(v)
			w.says("the objects", text(w.heap.Table().Count()), len(was)+k)
			for _, y := range was {
				if y == x {
					t.Errorf("%s: an old handle", sample.Short(v))
				}
			}
		}
	}
	for i, x := range l {
		w.reads("a value behind others", x, good()[i%len(good())])
		w.fine(w.heap.SetRoot(0, x))
		objects, _ := w.heap.Live()
		_, _, k := drawn(good()[i%len(good())])
		w.says("the objects reached", text(objects), k)
	}
}

// P12.1: values by chance.
func TestBuildByChance(t *testing.T) {
	r := rand.New(rand.NewSource(1))
	m := maker(r)
	kinds := map[int]int{}
	for range 3000 {
		v := m.Value(r.Intn(5))
		kinds[v.Kind]++
		want, n, k := drawn(v)
		w := empty(t, n+r.Intn(3), k+r.Intn(3))
		w.says(sample.Short(v), words(doc.Words(v)), n, k, api.OK)
		x := w.built(v)
		w.says(sample.Short(v), w.tree(x), want)
		w.reads(sample.Short(v), x, v)
		w.says("words, objects", text(w.heap.Arena().Top(), w.heap.Table().Count()), n, k)
	}
	if len(kinds) != 6 {
		t.Errorf("kinds: %v", kinds)
	}
}

// greedy is a watcher that makes an object for each that is made by others.
type greedy struct {
	w    *world
	busy bool
}

func (g *greedy) Made(uint64) {
	if !g.busy {
		g.busy = true
		g.w.heap.Make(200, 0, 0)
		g.busy = false
	}
}

func (g *greedy) Linked(uint64) {}

// R1: a watcher that takes the room while a value is built: that is refused, or the value is right.
func TestGreedyWatcher(t *testing.T) {
	for extra := range 9 {
		w := empty(t, 10+extra, 20)
		w.heap.Watch(&greedy{w: w})
		x, e := doc.Build(w.heap, val(t, `{"a":[1]}`))
		if extra < 3 {
			w.says("Build", text(x, e), 0, api.ErrFull)
			continue
		}
		w.fine(e)
		w.reads("the value", x, val(t, `{"a":[1]}`))
	}
}

// counter counts what it is told of.
type counter struct{ made, linked map[uint64]int }

func (c counter) Made(x uint64)   { c.made[x]++ }
func (c counter) Linked(x uint64) { c.linked[x]++ }

// P12.1: all objects of a value are made and held by one way, which the heap's watcher is told of.
func TestWatched(t *testing.T) {
	for _, v := range good() {
		w := empty(t, 5000, 500)
		c := counter{map[uint64]int{}, map[uint64]int{}}
		w.heap.Watch(c)
		x := w.built(v)
		_, _, k := drawn(v)
		w.says("made, linked", text(len(c.made), len(c.linked)), k, k-1)
		for y, n := range c.made {
			want := 1
			if y == x {
				want = 0
			}
			w.says("an object", text(n, c.linked[y]), 1, want)
		}
	}
}

// R4: what Build and Words are handed is not changed, and not kept.
func TestNotKept(t *testing.T) {
	w := empty(t, 50000, 9000)
	for _, v := range good() {
		in := sample.WithRoom(v)
		was := sample.ShowRoom(in)
		doc.Words(in)
		x := w.built(in)
		w.says("what was handed in", sample.ShowRoom(in), was)
		spoil(in)
		w.reads("the value", x, v)
	}
}

// spoil changes all lists of a value.
func spoil(v api.Val) {
	for i := range v.L {
		spoil(v.L[i])
		v.L[i] = sample.Int(math.MaxInt64)
	}
	for i := range v.F {
		spoil(v.F[i].V)
		v.F[i] = sample.Field("spoilt", sample.Int(math.MinInt64))
	}
}
