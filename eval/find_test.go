package eval_test

import (
	"math"
	"math/rand"
	"slices"
	"strings"
	"testing"

	"tidemark/api"
	"tidemark/check"
	"tidemark/eval"
	"tidemark/parse"
	"tidemark/sample"
)

// finds sees to it that the statement of a text finds the documents of the text want among those of the text l.
func finds(t *testing.T, l, s, want string) {
	t.Helper()
	is(t, s+" of "+l, toldList(eval.Find(vals(l), stmt(s))), toldList(vals(want), api.OK))
}

// findsNone sees to it that Find tells that error.
func findsNone(t *testing.T, l []api.Val, x api.Stmt, want api.Errno) {
	t.Helper()
	is(t, cut(sample.ShowStmt(x))+" of "+short(list(l...)), toldList(eval.Find(l, x)), fault(want))
}

// some are documents in no order.
const some = `{"id":3,"x":3},{"id":1,"x":2,"y":{"a":1,"b":2}},{"id":"a"},{"id":4,"x":4},{"id":2,"x":1},{"id":5,"x":"b"}`

// P17.2: each part by itself, and all together.
func TestFind(t *testing.T) {
	finds(t, "", "find a", "")
	finds(t, "", "find a where x exists order by x limit 3 show y", "")
	finds(t, some, "find a", `{"id":1,"x":2,"y":{"a":1,"b":2}},{"id":2,"x":1},{"id":3,"x":3},{"id":4,"x":4},{"id":5,"x":"b"},{"id":"a"}`)
	finds(t, some, "find any where x > 2", `{"id":3,"x":3},{"id":4,"x":4}`)
	finds(t, some, "find a where x > 4", "")
	finds(t, some, "find a order by x desc", `{"id":5,"x":"b"},{"id":4,"x":4},{"id":3,"x":3},{"id":1,"x":2,"y":{"a":1,"b":2}},{"id":2,"x":1},{"id":"a"}`)
	finds(t, some, "find a limit 2", `{"id":1,"x":2,"y":{"a":1,"b":2}},{"id":2,"x":1}`)
	finds(t, some, "find a show x, y.b", `{"x":2,"y":{"b":2}},{"x":1},{"x":3},{"x":4},{"x":"b"},{}`)
	finds(t, some, "find a where x < 4 order by x limit 2 show id", `{"id":2},{"id":1}`)
	// What stands in no answer is what the order goes by, and what the condition asks for.
	finds(t, some, "find a where x < 4 and y.a != 2 order by x desc, id limit 2 show y", `{},{"y":{"a":1,"b":2}}`)
	finds(t, some, "find a where not x in [1,2,3] order by id desc limit 64", `{"id":"a"},{"id":5,"x":"b"},{"id":4,"x":4}`)
	finds(t, some, "find a where id = 3 or id = 2 order by y, x show x", `{"x":1},{"x":3}`)
	// Of one id and one rank the first one stays first.
	finds(t, `{"id":1,"x":2},{"id":1,"x":1},{"id":0,"x":3}`, "find a limit 2", `{"id":0,"x":3},{"id":1,"x":2}`)
}

// P17.2: a Limit of 0, below, at and above the number of documents of which Where holds.
func TestFindLimit(t *testing.T) {
	for _, n := range []int{0, 1, 2, 5, 63, 64, 65, 66, 128, 300} {
		var l []api.Val
		for i := range n {
			// The documents come in the other way round, with as many between of which Where does not hold.
			l = append(l, doc(field("id", number(int64(n-i))), field("x", null)), document(text(strings.Repeat("a", i%64))))
		}
		for _, limit := range []int{0, 1, 2, 3, 4, 5, 6, 62, 63, 64} {
			x := stmt("find a where x exists show id")
			x.Limit = limit
			most := limit
			if limit == 0 {
				most = 64
			}
			var want []api.Val
			for i := range min(n, most) {
				want = append(want, document(number(int64(i+1))))
			}
			is(t, sample.ShowStmt(x), toldList(eval.Find(l, x)), toldList(want, api.OK))
		}
	}
}

// worse are lists of documents, and of others.
var worse = [][]api.Val{nil, vals(example), vals("5"), vals("{}"), {{}}, {sample.DeepLists(9)}, vals(`{"id":1},null`)}

// P17.2: ErrArg of what is no find, whatever the documents are: another verb, with the parts of a find and without.
func TestFindByNoFind(t *testing.T) {
	x := stmt("find a where x exists order by x limit 3 show x")
	for _, l := range worse {
		for _, verb := range append(sample.Verbs(), "", "Find", "find ", "FIND", "foo", "\xff") {
			if verb == "find" {
				continue
			}
			y := x
			y.Verb = verb
			findsNone(t, l, y, api.ErrArg)
			findsNone(t, l, api.Stmt{Verb: verb, Coll: "a"}, api.ErrArg)
			findsNone(t, l, api.Stmt{Verb: verb, Coll: "a", Where: x.Where}, api.ErrArg)
		}
		for _, s := range []string{"make a", "drop a", "index a x", "unindex a x", `insert a {"id":1}`, `replace a {"id":1}`, "get a 1", "count a", "count a where x = 1", "delete a", "update a set x = 1"} {
			findsNone(t, l, stmt(s), api.ErrArg)
		}
		findsNone(t, l, api.Stmt{}, api.ErrArg)
	}
}

// P17.2: ErrArg of a find that parse.Print does not take, whatever the documents are.
func TestFindByNoText(t *testing.T) {
	x := stmt("find a")
	spoilers := []func(x *api.Stmt){
		func(x *api.Stmt) { x.Path = "x" }, func(x *api.Stmt) { x.V = null }, func(x *api.Stmt) { x.Changes = changes("set x = 1") },
		func(x *api.Stmt) { x.Show = []string{"a."} }, func(x *api.Stmt) { x.Show = []string{""} }, func(x *api.Stmt) { x.Order = []api.Order{{Path: "x"}, {Path: "01"}} }, func(x *api.Stmt) { x.Order = []api.Order{{}} },
	}
	for _, coll := range []string{"", "1", "a b", "a.b", "\u00e4", "\xff", letters(25), "a limit 3"} {
		spoilers = append(spoilers, func(x *api.Stmt) { x.Coll = coll })
	}
	for _, c := range sample.BadConds() {
		spoilers = append(spoilers, func(x *api.Stmt) { x.Where = c }, func(x *api.Stmt) { x.Where = not(and(exists("x"), c)) })
	}
	for _, l := range worse {
		for _, spoil := range spoilers {
			y := x
			spoil(&y)
			findsNone(t, l, y, api.ErrArg)
		}
	}
	// Beside the statement's own words there is not room for as long a condition as Holds takes.
	long := func(n int) api.Stmt {
		return api.Stmt{Verb: "find", Coll: "a", Where: or(slices.Repeat([]api.Cond{exists("x")}, n)...)}
	}
	is(t, "681 tests", toldList(eval.Find(vals(example), long(681))), example)
	findsNone(t, vals(example), long(682), api.ErrArg)
}

// P17.2: ErrArg of a find that check.Stmt refuses, whatever the documents are.
func TestFindByNoSense(t *testing.T) {
	for _, s := range []string{
		"find a limit 65", "find a limit -1", "find a limit 9223372036854775807", "find a limit -9223372036854775808", "find a where x in 5", "find a where not (y = 1 or x in {})", "find a order by a, b, c, d, e", "find a order by x, y, x", "find a order by x, x desc",
		"find a show a, b, c, d, e, f, g, h, i", "find a show x.0", "find a show x, y, x", "find a show x.y, x", "find a where x in null order by x, x limit 65 show x, x",
	} {
		if check.Stmt(stmt(s)) == api.OK {
			t.Errorf("%s is let pass", s)
		}
		for _, l := range worse {
			findsNone(t, l, stmt(s), api.ErrArg)
		}
	}
	for _, n := range sample.Numbers(64) {
		x := stmt("find a")
		if x.Limit = n; n < 0 || n > 64 {
			findsNone(t, vals(example), x, api.ErrArg)
		} else {
			is(t, "a limit that may be", toldList(eval.Find(vals(example), x)), example)
		}
	}
	for _, n := range []int{math.MinInt, math.MaxInt} {
		findsNone(t, nil, api.Stmt{Verb: "find", Coll: "a", Limit: n}, api.ErrArg)
	}
}

// P17.2: the first error of check.Id of the documents, also of those that would not be found.
func TestFindOfNoDocuments(t *testing.T) {
	faults := []sample.Fault{{V: null, E: api.ErrKind}, {V: number(1), E: api.ErrKind}, {V: list(val(example)), E: api.ErrKind}, {V: doc(), E: api.ErrKey}, {V: document(null), E: api.ErrKey}, {V: document(text(letters(65))), E: api.ErrKey}}
	faults = append(faults, bad...)
	for i, f := range faults {
		other := faults[(i+4)%len(faults)].V
		for _, s := range []string{"find a", "find a where zz exists", "find a where x > 1 order by x desc limit 1 show x"} {
			for _, n := range []int{0, 1, 2, 100} {
				l := slices.Repeat(vals(example), n)
				findsNone(t, append(l, f.V), stmt(s), f.E)
				findsNone(t, append(l, f.V, other, val(example)), stmt(s), f.E)
			}
		}
	}
}

// findOtherwise is Find by another hand, of a find that is let pass.
func findOtherwise(l []api.Val, x api.Stmt) []api.Val {
	var told []api.Val
	for _, v := range inOrder(l, x.Order) {
		if !holdsOtherwise(x.Where, v) || x.Limit > 0 && len(told) == x.Limit || len(told) == 64 {
			continue
		}
		w, some := pruned(v, "", x.Show)
		if len(x.Show) == 0 {
			w = v
		} else if !some {
			w = doc()
		}
		told = append(told, w)
	}
	return told
}

// P17.2: documents and finds by chance, held against another hand.
func TestFindByChance(t *testing.T) {
	r := rand.New(rand.NewSource(6))
	refused := 0
	for range 6000 {
		l := append(randoms(r, 20), random(r))
		x := api.Stmt{Verb: "find", Coll: "a", Where: randomCond(r, l[0]), Order: randomOrders(r, 5), Limit: r.Intn(10), Show: randomPaths(r, 5)}
		if r.Intn(3) == 0 {
			x.Where = api.Cond{}
		}
		if r.Intn(20) == 0 {
			l = slices.Repeat(l, 1+r.Intn(10))
			x.Limit = one(r, 0, 63, 64)
		}
		_, e := parse.Print(x)
		if e != api.OK || check.Stmt(x) != api.OK {
			refused++
			findsNone(t, l, x, api.ErrArg)
			continue
		}
		if is(t, sample.ShowStmt(x), toldList(eval.Find(l, x)), toldList(findOtherwise(l, x), api.OK)); t.Failed() {
			return
		}
	}
	if refused < 50 || refused > 3000 {
		t.Errorf("%d were refused", refused)
	}
}
