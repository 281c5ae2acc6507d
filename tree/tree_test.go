package tree_test

import (
	"fmt"
	"math"
	"strings"
	"testing"

	"tidemark/api"
	"tidemark/heap"
	"tidemark/tree"
)

// The examples of chapter 13.
func TestExamples(t *testing.T) {
	w := empty(t, 900, 90)
	x, y := w.object(1, 0, 0), w.object(2, 0, 0)
	w.says("Get of a", w.get("a"), 0, false, api.OK)
	w.says("Put of b", two(w.puts("b", x)), 0, false, api.OK)
	w.says("Put of b again", two(w.puts("b", y)), x, true, api.OK)
	w.says("Count", w.count(), 1, api.OK)
	w.says("Take of b", two(w.takes("b")), y, true, api.OK)
	w.says("Take of b again", two(w.takes("b")), 0, false, api.OK)

	w = empty(t, 900, 90)
	x, y = w.object(1, 0, 0), w.object(2, 0, 0)
	w.put("a", x)
	w.put("c", y)
	w.says("Seek of b", w.seek("b"), "c", y, true, api.OK)
	w.says("Seek of nothing", w.seek(""), "a", x, true, api.OK)
	w.says("Seek of d", w.seek("d"), "", 0, false, api.OK)
	w.says("Last of c", w.last("c"), "a", x, true, api.OK)
	w.says("Last of nothing", w.last(""), "c", y, true, api.OK)

	w.says("Need", text(tree.Need(0), tree.Need(80)), 600, 610)
}

// P13.1: Need.
func TestNeed(t *testing.T) {
	w := &world{T: t}
	for _, c := range [][2]int{
		{0, 600}, {1, 600}, {7, 600}, {8, 601}, {9, 601}, {15, 601}, {16, 602}, {79, 609}, {80, 610}, {87, 610}, {88, 611},
		{-1, 600}, {-7, 600}, {-8, 600}, {-9, 600}, {-100000, 600}, {math.MinInt, 600}, {math.MinInt + 1, 600},
		{16383, 2647}, {16384, 2648}, {16385, 2648}, {1 << 40, 600 + 1<<37},
		{math.MaxInt, 600 + math.MaxInt/8}, {math.MaxInt - 7, 600 + math.MaxInt/8}, {math.MaxInt - 8, 599 + math.MaxInt/8},
	} {
		w.says(text("Need", c[0]), text(tree.Need(c[0])), c[1])
	}
}

// P13.1: Make, with room and without.
func TestMake(t *testing.T) {
	made := 0
	for words := 1; words <= 660; words++ {
		for _, slots := range []int{1, 2, 40} {
			w := bare(t, words, slots)
			x, e := tree.Make(w.heap)
			w.tree = x
			switch {
			case e == api.OK:
				made = max(made, words)
				w.same()
			case words >= tree.Need(0) || words > 60:
				t.Fatalf("%d words: %v", words, e)
			case made > 0:
				t.Fatalf("%d words are refused, %d are not", words, made)
			default:
				w.says("no room", text(x, e, w.heap.Arena().Top(), w.heap.Table().Count()), 0, api.ErrFull, 0, 0)
			}
		}
	}
	if made == 0 {
		t.Error("no tree was made")
	}
}

// P13.1: Make without a free slot, or without words, changes nothing.
func TestMakeFull(t *testing.T) {
	w := bare(t, 600, 3)
	for range 3 {
		w.object(1, 0, 1)
	}
	w.still("no slot", func() { w.says("Make", one(tree.Make(w.heap)), 0, api.ErrFull) })
	w = bare(t, 600, 50)
	w.object(1, 0, 598)
	w.still("one word", func() { w.says("Make", one(tree.Make(w.heap)), 0, api.ErrFull) })
	w.object(1, 0, 0)
	w.still("no word", func() { w.says("Make", one(tree.Make(w.heap)), 0, api.ErrFull) })
}

// P13.1: a tree is an object of the tag 20 and has no entries; those below it have tags from 21 to 29.
func TestTags(t *testing.T) {
	w := empty(t, 60000, 9000)
	for i := range 1000 {
		w.list.put(numbered(4, i*7%1000), 0)
		w.puts(numbered(4, i*7%1000), 0)
	}
	g := w.heap.Graph()
	for i, n := range g.Nodes {
		if (i == 0) != (n.Tag == 20) || n.Tag < 20 || n.Tag > 29 {
			t.Fatalf("an object of tag %d", n.Tag)
		}
	}
	w.same()
}

// calls are all calls that are handed a tree, each with what it answers beside its error, shown, and its error.
func calls() map[string]func(h *heap.Heap, t uint64, k []byte) (string, api.Errno) {
	return map[string]func(h *heap.Heap, t uint64, k []byte) (string, api.Errno){
		"Put": func(h *heap.Heap, t uint64, k []byte) (string, api.Errno) {
			old, had, e := tree.Put(h, t, k, 0)
			return text(old, had), e
		},
		"Take": func(h *heap.Heap, t uint64, k []byte) (string, api.Errno) {
			old, had, e := tree.Take(h, t, k)
			return text(old, had), e
		},
		"Get": func(h *heap.Heap, t uint64, k []byte) (string, api.Errno) {
			x, ok, e := tree.Get(h, t, k)
			return text(x, ok), e
		},
		"Seek": func(h *heap.Heap, t uint64, k []byte) (string, api.Errno) {
			k, x, ok, e := tree.Seek(h, t, k)
			return text(x, ok) + fmt.Sprintf("%s", k), e
		},
		"Last": func(h *heap.Heap, t uint64, k []byte) (string, api.Errno) {
			k, x, ok, e := tree.Last(h, t, k)
			return text(x, ok) + fmt.Sprintf("%s", k), e
		},
		"Count": func(h *heap.Heap, t uint64, k []byte) (string, api.Errno) {
			n, e := tree.Count(h, t)
			return text(n, false), e
		},
		"Check": func(h *heap.Heap, t uint64, k []byte) (string, api.Errno) {
			return text(0, false), tree.Check(h, t)
		},
	}
}

// refused sees to it that all calls, handed that tree and that key, are refused by e, and change nothing; Count and Check
// are handed no key.
func (w *world) refused(what string, t uint64, k string, e api.Errno) {
	w.Helper()
	for name, call := range calls() {
		if e == api.ErrArg && (name == "Count" || name == "Check") {
			continue
		}
		w.still(what, func() {
			answer, f := call(w.heap, t, []byte(k))
			w.says(name+", "+what, answer+" "+text(f), 0, false, e)
		})
	}
}

// All calls: ErrStale, ErrKind, ErrArg, in this order; R2, R3: nothing is told beside them, and nothing changed.
func TestRefused(t *testing.T) {
	w := planted(t, 9000, 900, "a", "b", "c")
	long := strings.Repeat("k", longest)
	gone, e := w.heap.Table().Make(0)
	w.fine(e, w.heap.Table().Free(gone))
	for _, k := range []string{"", "a", "x", long, long + "k", long + long} {
		for _, x := range []uint64{0, 1, 99, gone, w.tree + 1<<32, w.tree - 1<<32, w.tree | 1<<63, math.MaxUint64} {
			w.refused("a stale handle", x, k, api.ErrStale)
		}
		for tag := 1; tag <= 255; tag++ {
			if tag%5 > 0 && tag != 19 && tag != 21 && tag != 22 && tag != 23 || tag == 20 {
				continue
			}
			w.refused("another tag", w.object(tag, 1, 2), k, api.ErrKind)
		}
		if len(k) > longest {
			w.refused("a long key", w.tree, k, api.ErrArg)
		}
	}
	w.same()
}

// All calls: a key of 16384 bytes is taken.
func TestLongest(t *testing.T) {
	w := planted(t, 9000, 900, "j", "l")
	long := strings.Repeat("k", longest)
	w.put(long, w.tree)
	w.looks(long, long[1:], long[1:]+"j", long[1:]+"l", "k", "kk", "l")
	w.same()
	w.put(long, 0)
	w.put(long[1:]+"l", 0)
	w.take(long)
	w.take(long)
	w.same()
}

// P13.1: Put: ErrStale of an x that is not live, behind the errors of all calls; 0 is taken.
func TestPutStale(t *testing.T) {
	w := planted(t, 9000, 900, "a", "b", "c")
	x := w.held()
	gone, e := w.heap.Table().Make(0)
	w.fine(e, w.heap.Table().Free(gone))
	long := strings.Repeat("k", longest+1)
	for _, y := range []uint64{1, 99, gone, x + 1<<32, math.MaxUint64} {
		for _, k := range []string{"", "a", "b", "d"} {
			w.still("Put", func() { w.says("Put of "+k, two(w.puts(k, y)), 0, false, api.ErrStale) })
		}
		w.says("a stale tree", two(tree.Put(w.heap, 99, []byte(long), y)), 0, false, api.ErrStale)
		w.says("another tag", two(tree.Put(w.heap, x, []byte(long), y)), 0, false, api.ErrKind)
		w.says("a long key", two(w.puts(long, y)), 0, false, api.ErrArg)
	}
	w.put("d", 0)
	w.put("a", 0)
	w.put("b", x)
	w.same()
}

// P13.1: ErrStale of an x that is not live is told ahead of ErrFull.
func TestPutStaleInFull(t *testing.T) {
	w := empty(t, 20, 9)
	w.says("Put of nothing", two(w.puts("a", 0)), 0, false, api.ErrFull)
	w.says("Put of what is not live", two(w.puts("a", 99)), 0, false, api.ErrStale)
	w.same()
}

// P13.1: Put and Take tell the old ref, and whether there was one: 0 is a ref, too.
func TestOld(t *testing.T) {
	w := empty(t, 9000, 900)
	x, y := w.object(1, 0, 0), w.object(2, 0, 0)
	for _, k := range []string{"", "k", "\x00", "\xff"} {
		for i, c := range []struct {
			put, old uint64
			had      bool
		}{{0, 0, false}, {x, 0, true}, {x, x, true}, {y, x, true}, {0, y, true}, {0, 0, true}, {w.tree, 0, true}} {
			w.says(text("Put", i), two(w.puts(k, c.put)), c.old, c.had, api.OK)
			w.says(text("Get", i), w.get(k), c.put, true, api.OK)
		}
		w.says("Count", w.count(), 1, api.OK)
		w.says("Take", two(w.takes(k)), w.tree, true, api.OK)
		w.says("Take again", two(w.takes(k)), 0, false, api.OK)
		w.says("Get", w.get(k), 0, false, api.OK)
		w.says("Put", two(w.puts(k, 0)), 0, false, api.OK)
		w.says("Take", two(w.takes(k)), 0, true, api.OK)
		w.same()
	}
}

// P13.1: Take of a key that is not there, between others, ahead of them and behind: nothing changes.
func TestTakeNone(t *testing.T) {
	w := empty(t, 60000, 9000)
	w.still("an empty tree", func() { w.take("a") })
	for i := range 100 {
		w.put(numbered(3, 2*i+1), w.tree)
	}
	w.still("Take", func() {
		for i := range 101 {
			w.take(numbered(3, 2*i))
			w.take(numbered(3, 2*i+1) + "\x00")
		}
		w.take("")
		w.take("\xff")
	})
	w.same()
}
