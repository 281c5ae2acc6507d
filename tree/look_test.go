package tree_test

import (
	"fmt"
	"math/rand"
	"slices"
	"strings"
	"testing"

	"tidemark/api"
	"tidemark/tree"
)

// P13.2: an empty tree, one that never had entries and one that was emptied.
func TestEmpty(t *testing.T) {
	w := empty(t, 9000, 900)
	for range 2 {
		w.same()
		for _, k := range []string{"", "a", "\x00", "\xff\xff", strings.Repeat("a", longest)} {
			w.says("Get", w.get(k), 0, false, api.OK)
			w.says("Seek", w.seek(k), "", 0, false, api.OK)
			w.says("Last", w.last(k), "", 0, false, api.OK)
			w.says("Take", two(w.takes(k)), 0, false, api.OK)
		}
		w.put("a", w.tree)
		w.take("a")
	}
}

// P13.2: keys that are there, that lie between, ahead of all and behind all; in trees of all sizes.
func TestLooks(t *testing.T) {
	w := empty(t, 60000, 9000)
	x, y := w.held(), w.object(1, 0, 0)
	for i := range 400 {
		w.put(numbered(3, 2*i+1), []uint64{x, y, 0, w.tree}[i%4])
		if i < 40 || i%40 == 0 {
			w.same()
		}
	}
	for i := range 400 {
		k := numbered(3, 2*i)
		next := numbered(3, 2*i+1)
		w.says("Seek of "+k, w.seek(k), next, []uint64{x, y, 0, w.tree}[i%4], true, api.OK)
		w.says("Seek of "+next, w.seek(next), next, []uint64{x, y, 0, w.tree}[i%4], true, api.OK)
		w.says("Last behind "+next, w.last(next+"\x00"), next, []uint64{x, y, 0, w.tree}[i%4], true, api.OK)
		w.says("Get of "+k, w.get(k), 0, false, api.OK)
		w.says("Get of "+next, w.get(next), []uint64{x, y, 0, w.tree}[i%4], true, api.OK)
	}
	w.says("Seek behind all", w.seek("800"), "", 0, false, api.OK)
	w.says("Last ahead of all", w.last("001"), "", 0, false, api.OK)
	w.says("Last ahead of all", w.last("\x00"), "", 0, false, api.OK)
	w.says("Last of all", w.last(""), "799", w.tree, true, api.OK)
}

// P13.2: the empty key is below all others, is told by Seek and by Last of others, and is no entry till it is put; Last of
// it is the last entry of all, be it there or not.
func TestEmptyKey(t *testing.T) {
	w := empty(t, 60000, 9000)
	for i := range 60 {
		w.says("Get", w.get(""), 0, false, api.OK)
		w.put("", w.tree)
		w.says("Seek", w.seek(""), "", w.tree, true, api.OK)
		w.says("Last of 0", w.last("\x00"), "", w.tree, true, api.OK)
		w.same()
		w.take("")
		w.put(fmt.Sprint(i), 0)
		w.same()
	}
	w = planted(t, 900, 90, "")
	w.says("Last of it alone", w.last(""), "", w.list[0].x, true, api.OK)
	w.same()
}

// P13.2: keys of which one is another one's beginning, and keys with bytes 0 and 255, at the edges of words too.
func TestOddKeys(t *testing.T) {
	var keys []string
	for _, c := range []string{"\x00", "a", "\xff", "\x80", "\x7f"} {
		for n := range 26 {
			keys = append(keys, strings.Repeat(c, n), "a"+strings.Repeat(c, n), strings.Repeat(c, n)+"a", strings.Repeat(c, n)+"\x00\x01")
		}
	}
	for seed := range 2 {
		w := empty(t, 60000, 9000)
		for _, i := range rand.New(rand.NewSource(int64(seed))).Perm(len(keys)) {
			w.put(keys[i], []uint64{0, w.tree}[i%2])
		}
		w.same()
		for _, i := range rand.New(rand.NewSource(int64(seed + 9))).Perm(len(keys)) {
			w.take(keys[i])
			if i%16 == 0 {
				w.same()
			}
		}
		w.same()
	}
}

// P13.2: the order is that of bytes, at each place of a word.
func TestOrderOfBytes(t *testing.T) {
	for at := range 18 {
		w := empty(t, 60000, 9000)
		for b := 255; b >= 0; b -= 5 {
			k := strings.Repeat("m", at) + string([]byte{byte(b)})
			w.put(k, 0)
			w.put(k+strings.Repeat("m", 17-at), w.tree)
		}
		w.same()
		if !slices.IsSorted(w.list.keys()) {
			t.Fatal("the list is out of order")
		}
	}
}

// P13.2: keys of all lengths up to 16384, alike but for their lengths, and of other bytes.
func TestLengths(t *testing.T) {
	var lengths []int
	for n := range 70 {
		lengths = append(lengths, n, longest-n)
	}
	for n := 70; n < longest-70; n += 233 {
		lengths = append(lengths, n)
	}
	for _, c := range []string{"\x00", "b", "\xff"} {
		w := empty(t, 400000, 9000)
		for i, n := range lengths {
			k := strings.Repeat(c, n)
			w.list.put(k, []uint64{0, w.tree}[i%2])
			w.says("Put", two(w.puts(k, []uint64{0, w.tree}[i%2])), 0, false, api.OK)
		}
		w.sound()
		for i, n := range lengths {
			if i%7 == 0 || n < 20 || n > longest-4 {
				w.looks(strings.Repeat(c, n))
			}
		}
		for i, n := range lengths {
			if i%2 == 0 {
				w.list.take(strings.Repeat(c, n))
				w.says("Take", two(w.takes(strings.Repeat(c, n))), 0, true, api.OK)
			}
		}
		w.sound()
		w.looks(strings.Repeat(c, 3), strings.Repeat(c, 10), strings.Repeat(c, longest), strings.Repeat(c, longest-9))
	}
}

// P13.2: all lengths there are, each once told as it was put.
func TestEachLength(t *testing.T) {
	w := empty(t, 9000, 900)
	all := make([]byte, longest)
	rand.New(rand.NewSource(13)).Read(all)
	for n := 0; n <= longest; n++ {
		if n > 100 && n < longest-100 && n%61 > 0 {
			continue
		}
		k := string(all[longest-n:])
		if w.heap.Arena().Free() < tree.Need(n) {
			w.full()
		}
		w.says("Put", two(w.puts(k, 0)), 0, false, api.OK)
		w.says("Seek", w.seek(""), k, 0, true, api.OK)
		w.says("Last", w.last(""), k, 0, true, api.OK)
		w.says("Take", two(w.takes(k)), 0, true, api.OK)
	}
	w.same()
}

// P13.2: going through a tree by Seek, and back by Last, meets each entry once.
func TestThrough(t *testing.T) {
	for _, n := range []int{0, 1, 5, 16, 17, 40, 300, 2000} {
		w := empty(t, 60000, 9000)
		for i := range n {
			w.list = append(w.list, item{numbered(5, i), w.tree})
		}
		for _, i := range rand.New(rand.NewSource(int64(n))).Perm(n) {
			w.says("Put", two(w.puts(numbered(5, i), w.tree)), 0, false, api.OK)
		}
		w.sound()
		w.through()
	}
}

// through goes through all of a tree by Seek, and back by Last.
func (w *world) through() {
	w.Helper()
	k := []byte(nil)
	for i := range len(w.list) + 1 {
		l, x, ok, e := tree.Seek(w.heap, w.tree, k)
		want, there := w.list.at(i)
		w.says("Seek", text(l, x, ok, e), want.key, want.x, there, api.OK)
		k = append(l, 0)
	}
	k = nil
	for i := len(w.list) - 1; i >= 0; i-- {
		l, x, ok, e := tree.Last(w.heap, w.tree, k)
		w.says("Last", text(l, x, ok, e), w.list[i].key, w.list[i].x, true, api.OK)
		k = l
	}
	if len(k) > 0 {
		w.says("Last of the first", w.last(string(k)), "", 0, false, api.OK)
	}
}
