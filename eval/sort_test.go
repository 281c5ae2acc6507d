package eval_test

import (
	"fmt"
	"math/rand"
	"slices"
	"strings"
	"testing"

	"tidemark/api"
	"tidemark/eval"
	"tidemark/sample"
)

// sorts sees to it that Sort tells the documents of the text want of those of the text l.
func sorts(t *testing.T, l, by, want string) {
	t.Helper()
	if want != "" {
		want = toldList(vals(want), api.OK)
	}
	is(t, "Sort of "+l+" by "+by, toldList(eval.Sort(vals(l), orders(by))), want)
}

// sortsNone sees to it that Sort tells that error.
func sortsNone(t *testing.T, l []api.Val, o []api.Order, want api.Errno) {
	t.Helper()
	is(t, "Sort of "+short(list(l...))+" by "+fmt.Sprint(o), toldList(eval.Sort(l, o)), fault(want))
}

// The chapter's example.
func TestSortExample(t *testing.T) {
	sorts(t, `{"id":1,"x":2},{"id":2},{"id":3,"x":1}`, "x desc", `{"id":1,"x":2},{"id":3,"x":1},{"id":2}`)
}

// P17.1: without Orders documents stand by their ids: numbers, then texts.
func TestSortByIds(t *testing.T) {
	sorts(t, "", "", "")
	sorts(t, "", "x, y desc", "")
	sorts(t, `{"id":5}`, "", `{"id":5}`)
	sorts(t, `{"id":"b"},{"id":2},{"id":"ab"},{"id":-3},{"id":""},{"id":10},{"id":"a"},{"id":0}`, "", `{"id":-3},{"id":0},{"id":2},{"id":10},{"id":""},{"id":"a"},{"id":"ab"},{"id":"b"}`)
	sorts(t, `{"a":1,"id":2},{"a":2,"id":1}`, "", `{"a":2,"id":1},{"a":1,"id":2}`)
	sorts(t, `{"id":9223372036854775807},{"id":-9223372036854775808},{"id":0}`, "", `{"id":-9223372036854775808},{"id":0},{"id":9223372036854775807}`)
}

// P17.1: by one Path, both ways round; those without a value there come first, and last with Desc; ids are not turned round.
func TestSortByOne(t *testing.T) {
	l := `{"id":4,"x":2},{"id":3},{"id":2,"x":2},{"id":1,"x":"a"},{"id":6,"x":null},{"id":5},{"id":7,"x":-1}`
	sorts(t, l, "x", `{"id":3},{"id":5},{"id":6,"x":null},{"id":7,"x":-1},{"id":2,"x":2},{"id":4,"x":2},{"id":1,"x":"a"}`)
	sorts(t, l, "x desc", `{"id":1,"x":"a"},{"id":2,"x":2},{"id":4,"x":2},{"id":7,"x":-1},{"id":6,"x":null},{"id":3},{"id":5}`)
	sorts(t, l, "y", `{"id":1,"x":"a"},{"id":2,"x":2},{"id":3},{"id":4,"x":2},{"id":5},{"id":6,"x":null},{"id":7,"x":-1}`)
	sorts(t, l, "y desc", `{"id":1,"x":"a"},{"id":2,"x":2},{"id":3},{"id":4,"x":2},{"id":5},{"id":6,"x":null},{"id":7,"x":-1}`)
	sorts(t, `{"id":1},{"id":"a"},{"id":2}`, "id desc", `{"id":"a"},{"id":2},{"id":1}`)
	sorts(t, `{"id":1,"x":[{"y":2}]},{"id":2,"x":[{"y":1}]},{"id":3,"x":[]},{"id":4,"x":{"y":0}}`, "x.0.y", `{"id":3,"x":[]},{"id":4,"x":{"y":0}},{"id":2,"x":[{"y":1}]},{"id":1,"x":[{"y":2}]}`)
}

// P17.1: of values of each Kind, in their order.
func TestSortEachKind(t *testing.T) {
	r := rand.New(rand.NewSource(2))
	var up, down []api.Val
	for i, x := range rising {
		up = append(up, doc(field("id", number(int64(-i))), field("x", x)))
	}
	up = slices.Insert(up, 0, document(number(7)), document(number(8)))
	down = slices.Concat(up[2:], nil)
	slices.Reverse(down)
	down = append(down, up[:2]...)
	for range 20 {
		l := slices.Clone(up)
		r.Shuffle(len(l), func(i, k int) { l[i], l[k] = l[k], l[i] })
		is(t, "up", toldList(eval.Sort(l, orders("x"))), toldList(up, api.OK))
		is(t, "down", toldList(eval.Sort(l, orders("x desc"))), toldList(down, api.OK))
	}
}

// P17.1: by several, each where those ahead of it tell nothing; the same one twice tells nothing more.
func TestSortBySeveral(t *testing.T) {
	l := `{"id":1,"x":2,"y":1},{"id":2,"x":1,"y":1},{"id":3,"x":2,"y":2},{"id":4,"x":1,"y":2},{"id":5,"y":0},{"id":6,"x":1}`
	for by, want := range map[string]string{
		"x, y":            `{"id":5,"y":0},{"id":6,"x":1},{"id":2,"x":1,"y":1},{"id":4,"x":1,"y":2},{"id":1,"x":2,"y":1},{"id":3,"x":2,"y":2}`,
		"y, x":            `{"id":6,"x":1},{"id":5,"y":0},{"id":2,"x":1,"y":1},{"id":1,"x":2,"y":1},{"id":4,"x":1,"y":2},{"id":3,"x":2,"y":2}`,
		"x, y desc":       `{"id":5,"y":0},{"id":4,"x":1,"y":2},{"id":2,"x":1,"y":1},{"id":6,"x":1},{"id":3,"x":2,"y":2},{"id":1,"x":2,"y":1}`,
		"x desc, y":       `{"id":1,"x":2,"y":1},{"id":3,"x":2,"y":2},{"id":6,"x":1},{"id":2,"x":1,"y":1},{"id":4,"x":1,"y":2},{"id":5,"y":0}`,
		"x desc, y desc":  `{"id":3,"x":2,"y":2},{"id":1,"x":2,"y":1},{"id":4,"x":1,"y":2},{"id":2,"x":1,"y":1},{"id":6,"x":1},{"id":5,"y":0}`,
		"x desc, id desc": `{"id":3,"x":2,"y":2},{"id":1,"x":2,"y":1},{"id":6,"x":1},{"id":4,"x":1,"y":2},{"id":2,"x":1,"y":1},{"id":5,"y":0}`,
	} {
		sorts(t, l, by, want)
		sorts(t, l, "z, "+by+", x, x desc, y", want)
		sorts(t, l, strings.Repeat("z desc, ", 50)+by, want)
	}
}

// P17.1: of two of one id and one rank the first one stays first; ranks go ahead of ids.
func TestSortOfOneId(t *testing.T) {
	sorts(t, `{"id":1,"x":2},{"id":1,"x":1}`, "", `{"id":1,"x":2},{"id":1,"x":1}`)
	sorts(t, `{"id":1,"x":2},{"id":1,"x":1}`, "x", `{"id":1,"x":1},{"id":1,"x":2}`)
	sorts(t, `{"id":1,"x":2},{"id":1,"x":1}`, "y desc", `{"id":1,"x":2},{"id":1,"x":1}`)
	sorts(t, `{"id":1,"x":1},{"id":0,"x":2},{"id":1,"x":2},{"id":0,"x":1}`, "x desc", `{"id":0,"x":2},{"id":1,"x":2},{"id":0,"x":1},{"id":1,"x":1}`)
	var all, want []api.Val
	for i := range int64(200) {
		all = append(all, doc(field("id", number(i%2)), field("n", number(i)), field("x", number(i%3))))
	}
	for _, x := range []int64{2, 1, 0} {
		for id := range int64(2) {
			for _, v := range all {
				if v.F[0].V.N == id && v.F[2].V.N == x {
					want = append(want, v)
				}
			}
		}
	}
	is(t, "Sort of many of one id", toldList(eval.Sort(all, orders("x desc"))), toldList(want, api.OK))
}

// P17.1: the first error of check.Id is told, ahead of those of Paths.
func TestSortOfNoDocuments(t *testing.T) {
	faults := []sample.Fault{{V: null, E: api.ErrKind}, {V: number(1), E: api.ErrKind}, {V: list(document(number(1))), E: api.ErrKind}, {V: doc(), E: api.ErrKey}, {V: document(null), E: api.ErrKey}, {V: document(text(letters(65))), E: api.ErrKey}, {V: doc(field("x", number(1))), E: api.ErrKey}}
	faults = append(faults, bad...)
	for i, f := range faults {
		other := faults[(i+3)%len(faults)].V
		for _, o := range [][]api.Order{nil, orders("x desc"), {{Path: "01"}}, {{Path: "x"}, {}}} {
			for n := range 4 {
				l := slices.Repeat([]api.Val{val(example)}, n)
				sortsNone(t, append(l, f.V), o, f.E)
				sortsNone(t, append(l, f.V, val(example), other), o, f.E)
			}
		}
	}
}

// P17.1: ErrForm, if a Path is no path, whatever there is to sort.
func TestSortByNoPath(t *testing.T) {
	for _, p := range badPaths {
		for _, l := range [][]api.Val{nil, vals(example), vals(`{"id":1},{"id":2,"x":1}`)} {
			for n := range 5 {
				o := slices.Repeat(orders("x"), n)
				sortsNone(t, l, append(o, api.Order{Path: p}), api.ErrForm)
				sortsNone(t, l, append(o, api.Order{Path: p, Desc: true}, api.Order{Path: "y"}), api.ErrForm)
			}
		}
	}
}

// ahead tells by another hand whether a must stand ahead of b (below 0), or behind it, by their ranks and ids.
func ahead(a, b api.Val, o []api.Order) int {
	for _, by := range append(slices.Clone(o), api.Order{Path: "id"}) {
		x, here := lead(a, by.Path)
		y, there := lead(b, by.Path)
		n := 0
		switch {
		case here && there:
			n = order(x, y)
		case here != there && here:
			n = 1
		case here != there:
			n = -1
		}
		if by.Desc {
			n = -n
		}
		if n != 0 {
			return n
		}
	}
	return 0
}

// inOrder is Sort by another hand: each one goes behind all that it need not be ahead of.
func inOrder(l []api.Val, o []api.Order) []api.Val {
	var told []api.Val
	for _, v := range l {
		at := len(told)
		for at > 0 && ahead(v, told[at-1], o) < 0 {
			at--
		}
		told = slices.Insert(told, at, v)
	}
	return told
}

// randomOrders are some Orders by chance.
func randomOrders(r *rand.Rand, most int) []api.Order {
	var o []api.Order
	for range r.Intn(most) {
		o = append(o, maker(r).Order())
	}
	return o
}

// P17.1: documents and Orders by chance, held against another hand.
func TestSortByChance(t *testing.T) {
	r := rand.New(rand.NewSource(3))
	for range 5000 {
		l, o := randoms(r, 20), randomOrders(r, 6)
		if is(t, fmt.Sprint("Sort by ", o), toldList(eval.Sort(l, o)), toldList(inOrder(l, o), api.OK)); t.Failed() {
			return
		}
	}
}
