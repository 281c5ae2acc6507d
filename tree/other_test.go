package tree_test

import "slices"

// item is an entry of a list.
type item struct {
	key string
	x   uint64
}

// list is a sorted list of entries: what a tree should tell, by another hand.
type list []item

// place is how many keys are below k.
func (l list) place(k string) int {
	n := 0
	for n < len(l) && l[n].key < k {
		n++
	}
	return n
}

// at is the item at a place, if there is one.
func (l list) at(i int) (item, bool) {
	if i < 0 || i >= len(l) {
		return item{}, false
	}
	return l[i], true
}

// get is the ref of k.
func (l list) get(k string) (uint64, bool) {
	if x, ok := l.at(l.place(k)); ok && x.key == k {
		return x.x, true
	}
	return 0, false
}

// seek is the item with the least key that is not below k.
func (l list) seek(k string) (item, bool) { return l.at(l.place(k)) }

// last is the item with the greatest key below k; of no bytes: the last one.
func (l list) last(k string) (item, bool) {
	if k == "" {
		return l.at(len(l) - 1)
	}
	return l.at(l.place(k) - 1)
}

// put makes x the ref of k, and tells the one it had.
func (l *list) put(k string, x uint64) (old uint64, had bool) {
	old, had = l.get(k)
	if i := l.place(k); had {
		(*l)[i].x = x
	} else {
		*l = slices.Insert(*l, i, item{k, x})
	}
	return old, had
}

// take lets k go, and tells its ref.
func (l *list) take(k string) (old uint64, had bool) {
	old, had = l.get(k)
	if i := l.place(k); had {
		*l = slices.Delete(*l, i, i+1)
	}
	return old, had
}

// keys are all keys.
func (l list) keys() []string {
	var all []string
	for _, x := range l {
		all = append(all, x.key)
	}
	return all
}

// bytes tells how many bytes the keys have in all.
func (l list) bytes() int {
	n := 0
	for _, x := range l {
		n += len(x.key)
	}
	return n
}
