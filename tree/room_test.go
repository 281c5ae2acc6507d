package tree_test

import (
	"math/rand"
	"strings"
	"testing"

	"tidemark/api"
	"tidemark/tree"
)

// P13.1: a tree in a heap with too little room: what is refused changes nothing at all; the tree tells what it told, also
// after a full collection, and takes entries again, where that made room.
func TestFull(t *testing.T) {
	refused, again := 0, 0
	for words := 5; words < 1500; words += 2 + words/9 {
		for _, slots := range []int{3, 6, 20, 400} {
			w := empty(t, words, slots)
			r := rand.New(rand.NewSource(int64(words + slots)))
			for range 100 {
				k := strings.Repeat("k", r.Intn(20)) + numbered(2, r.Intn(100))
				if len(w.list) > 0 && r.Intn(4) == 0 {
					w.take(w.list[r.Intn(len(w.list))].key)
					continue
				}
				if w.room(k) {
					continue
				}
				refused++
				w.looks(beside(k)...)
				if r.Intn(5) > 0 {
					continue
				}
				w.full()
				w.same()
				if w.room(k) {
					again++
				}
			}
			w.same()
		}
	}
	if refused < 1000 || again < 50 {
		t.Errorf("%d were refused, %d not any more after a collection", refused, again)
	}
}

// room puts an entry, and tells whether there was room for it; if not, nothing is changed.
func (w *world) room(k string) bool {
	w.Helper()
	a, t := w.heap.Arena(), w.heap.Table()
	was, words, slots := w.picture(), a.Free(), t.Slots()-t.Count()
	old, had, e := w.puts(k, w.tree)
	if e == api.OK {
		x, ok := w.list.put(k, w.tree)
		w.says("Put of "+k, text(old, had), x, ok)
		w.sound()
		return true
	}
	w.says("Put of "+k, text(old, had, e), 0, false, api.ErrFull)
	if words >= tree.Need(len(k)) && slots >= 40 {
		w.Fatalf("no room for %q in %d words, %d slots", k, words, slots)
	}
	if w.picture() != was {
		w.Fatalf("Put of %q is refused, and changed the heap", k)
	}
	w.sound()
	return false
}

// P13.1: a heap in which even one entry has no room.
func TestNoRoomForOne(t *testing.T) {
	for words := 5; words <= 20; words++ {
		w := empty(t, words, 9)
		w.still("Put", func() { w.says("Put", two(w.puts("a", 0)), 0, false, api.ErrFull) })
		w.same()
		w.full()
		w.same()
	}
}

// fill makes objects that nothing holds, till just so many words and slots are free.
func (w *world) fill(words, slots int) {
	w.Helper()
	a, t := w.heap.Arena(), w.heap.Table()
	for t.Slots()-t.Count() > slots {
		size := min(a.Free()-words-1, api.MaxSize)
		// Each object that is still to be made wants a word.
		size = min(size, a.Free()-words-(t.Slots()-t.Count()-slots))
		w.object(9, 0, size)
	}
	w.says("the room", text(a.Free(), t.Slots()-t.Count()), words, slots)
}

// P13.1: in as many free words as Need says and 40 free slots no call is refused, whatever the keys' lengths and however
// full the nodes are.
func TestEnough(t *testing.T) {
	lengths := []int{0, 1, 7, 8, 9, 60, 2000, longest - 1, longest}
	for seed := range 4 {
		r := rand.New(rand.NewSource(int64(seed)))
		w := empty(t, 400000, 3000)
		for range 200 {
			n := lengths[r.Intn(len(lengths))]
			if seed%2 == 0 {
				n = min(n, 20)
			}
			k := strings.Repeat("k", max(n-4, 0)) + numbered(4, r.Intn(2000))[:min(n, 4)]
			if len(w.list) > 0 && r.Intn(3) == 0 {
				k = w.list[r.Intn(len(w.list))].key
			}
			w.full()
			w.fill(tree.Need(len(k)), 40)
			if r.Intn(3) == 0 {
				w.take(k)
			} else {
				w.put(k, w.tree)
			}
		}
		w.full()
		w.same()
	}
}

// P13.1: the same of trees whose nodes are as full as they come, or as empty, up to some thousand entries.
func TestEnoughInOrder(t *testing.T) {
	const n = 3000
	for name, order := range orders(n) {
		w := empty(t, 100000, 4000)
		for step, i := range order {
			w.narrow(step)
			w.says(name, two(w.puts(numbered(4, i), 0)), 0, false, api.OK)
		}
		w.says(name, w.count()+" "+text(w.check()), n, api.OK, api.OK)
		for step, i := range order {
			w.narrow(step)
			w.says(name, two(w.takes(numbered(4, i))), 0, true, api.OK)
		}
		w.same()
	}
}

// narrow leaves just as much room as Need says for one step of a key of 4 bytes, at some steps, and all at others.
func (w *world) narrow(step int) {
	w.Helper()
	switch at := step % 97; {
	case at < 3:
		w.full()
		w.fill(tree.Need(4), 40)
	case at == 3:
		w.full()
	}
}

// orders are numbers below n in some orders.
func orders(n int) map[string][]int {
	l := map[string][]int{"mixed": rand.New(rand.NewSource(7)).Perm(n)}
	for i := range n {
		l["rising"] = append(l["rising"], i)
		l["falling"] = append(l["falling"], n-1-i)
		l["from both ends"] = append(l["from both ends"], []int{i / 2, n - 1 - i/2}[i%2])
		l["in strides"] = append(l["in strides"], i*1013%n)
	}
	return l
}

// P13.1: of a tree of 100000 entries, each step takes no more words and slots than Need says, and those that take most are
// done where there are no more than these.
func TestEnoughForMany(t *testing.T) {
	const n = 100000
	for _, name := range []string{"rising", "falling"} {
		order := orders(n)[name]
		w := empty(t, api.MaxWords, 200000)
		top, count, taken := make([]int, n), make([]int, n), make([]int, n)
		greatest := 0
		for step, i := range order {
			top[step], count[step] = w.heap.Arena().Top(), w.heap.Table().Count()
			w.fine(w.added(i))
			taken[step] = w.heap.Arena().Top() - top[step]
			if taken[step] > tree.Need(6) || w.heap.Table().Count()-count[step] > 40 {
				t.Fatalf("%s: entry %d takes %d words", name, step, taken[step])
			}
			if taken[step] >= taken[greatest] {
				greatest = step
			}
		}
		w.says(name, w.count()+" "+text(w.check()), n, api.OK, api.OK)
		w = empty(t, top[greatest]+tree.Need(6), count[greatest]+40)
		for _, i := range order[:greatest+1] {
			w.fine(w.added(i))
		}
		w.says(name, w.count()+" "+text(w.check()), greatest+1, api.OK, api.OK)
	}
}

// added puts the entry of a number.
func (w *world) added(i int) api.Errno {
	_, _, e := w.puts(numbered(6, i), 0)
	return e
}
