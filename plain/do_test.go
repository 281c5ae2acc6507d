package plain_test

import (
	"fmt"
	"slices"
	"strings"
	"testing"

	"tidemark/api"
	"tidemark/plain"
	"tidemark/sample"
)

// The chapter's examples.
func TestExamples(t *testing.T) {
	one := `make a; insert a {"id":1,"x":5}; insert a {"id":1}; get a 1; count a`
	tells(t, api.State{}, one, `0; 0; 9; 0 {"id":1,"x":5}; 0 n 1`, `a {"id":1,"x":5}`)
	two := `update a where x > 4 add x 1; find a show x; delete a where x = 6; find a`
	tells(t, api.State{}, one+"; "+two, `0; 0; 9; 0 {"id":1,"x":5}; 0 n 1; 0 n 1; 0 n 1 {"x":6}; 0 n 1; 0`, "a")
	three := "index a x; index a x; unindex a y; drop b; get a 1; make 1"
	tells(t, api.State{}, one+"; "+two+"; "+three, `0; 0; 9; 0 {"id":1,"x":5}; 0 n 1; 0 n 1; 0 n 1 {"x":6}; 0 n 1; 0; 0; 9; 8; 8; 17; 14`, "a (x)")
}

// P19.1: make: one that is there, as many as there may be, and room again once one is gone.
func TestMake(t *testing.T) {
	tells(t, api.State{}, "make a; make a; make b; make a; make A; make B", "0; 9; 0; 9; 0; 0", "A; B; a; b")
	tells(t, api.State{}, "make a; drop a; make a; make a", "0; 0; 0; 9", "a")
	full := after(t, "make a; make b; make c; make d; make e; make f; make g; make h")
	// That it is there already is told ahead of that there are too many.
	tells(t, full, "make i; make a; make h; make A", "15; 9; 9; 15", "a; b; c; d; e; f; g; h")
	tells(t, full, "drop c; make i; make c; make i", "0; 0; 15; 9", "a; b; d; e; f; g; h; i")
	// What stands in another collection is not touched, and a new one is empty.
	tells(t, after(t, `make b; index b x; insert b {"id":1}`), "make a; make c; drop b; make b", "0; 0; 0; 0", "a; b; c")
}

// P19.1: names rise byte by byte, wherever a collection is made.
func TestNamesRise(t *testing.T) {
	want := []string{"A", "B", "Z", "_", "a", "a0", "aa", "b"}
	for at := range want {
		for shift := range want {
			var s api.State
			for i := range want {
				s = takes(t, s, api.Stmt{Verb: "make", Coll: want[(i*[]int{1, 3, 5, 7}[at%4]+shift)%8]})
			}
			is(t, "all names", toldState(s), strings.Join(want, "; "))
			s = takes(t, s, api.Stmt{Verb: "drop", Coll: want[at]})
			is(t, "without "+want[at], toldState(s), strings.Join(slices.Concat(want[:at], want[at+1:]), "; "))
			s = takes(t, s, api.Stmt{Verb: "make", Coll: want[at]})
			is(t, "with "+want[at], toldState(s), strings.Join(want, "; "))
		}
	}
}

// P19.1: all but make: ErrName, if there is no such collection, whatever else the statement asks for.
func TestNoCollection(t *testing.T) {
	s := after(t, `make b; index b x; insert b {"id":1}; make d; insert d {"id":1,"x":1}`)
	for _, coll := range []string{"a", "B", "c", "bb", "e", "", "\xff", letters(25)} {
		for _, x := range []api.Stmt{
			{Verb: "drop"}, {Verb: "index", Path: "x"}, {Verb: "index", Path: "z"}, {Verb: "unindex", Path: "x"}, {Verb: "unindex", Path: "z"}, {Verb: "insert", V: val(`{"id":1}`)}, {Verb: "insert", V: val(`{"id":2}`)}, {Verb: "replace", V: val(`{"id":1}`)}, {Verb: "replace", V: val(`{"id":2}`)}, {Verb: "get", V: number(1)}, {Verb: "get", V: number(2)},
			{Verb: "find"}, {Verb: "count"}, {Verb: "delete"}, {Verb: "update", Changes: stmt("update a add x 1").Changes}, {Verb: "update"}, {Verb: "find", Where: sample.Exists("x"), Limit: 3}, {Verb: "count", Where: sample.Exists("x")}, {Verb: "delete", Where: sample.Exists("x")},
			{Verb: "count", Where: sample.Or()}, {Verb: "find", Where: sample.Or()}, {Verb: "find", Path: "x"},
		} {
			x.Coll = coll
			refuses(t, s, x, api.ErrName)
			refuses(t, api.State{}, x, api.ErrName)
		}
	}
}

// P19.1: drop: it is gone, with all that it has, and no other one.
func TestDrop(t *testing.T) {
	l := `make a; insert a {"id":1}; make b; index b x; insert b {"id":1}; insert b {"id":2}; make c; insert c {"id":3}`
	tells(t, after(t, l), "drop b; find b; drop b", "0; 8; 8", `a {"id":1}; c {"id":3}`)
	tells(t, after(t, l), "drop a; drop c; get b 2", `0; 0; 0 {"id":2}`, `b (x) {"id":1} {"id":2}`)
	tells(t, after(t, l), "drop a; drop b; drop c; make b", "0; 0; 0; 0", "b")
}

// P19.1: index: a path that is there, as many as there may be, in each collection by itself.
func TestIndex(t *testing.T) {
	tells(t, after(t, "make a; make b"), "index a x; index a x; index b x; index a x.y; index a x.y", "0; 9; 0; 0; 9", "a (x, x.y); b (x)")
	full := after(t, "make a; index a d; index a b; index a c; index a a; make b")
	// That it is there already is told ahead of that there are too many.
	tells(t, full, "index a e; index a a; index a d; index a 0; index b e", "15; 9; 9; 15; 0", "a (a, b, c, d); b (e)")
	tells(t, full, "unindex a c; index a e; index a c; index a e", "0; 0; 15; 9", "a (a, b, d, e); b")
	for p, e := range map[string]string{"id": "10", "id.x": "10", "ida": "0", "x.id": "0", "0": "0"} {
		tells(t, after(t, "make a"), "index a "+p+"; unindex a "+p, e+"; "+e, "a")
	}
}

// P19.1: paths rise byte by byte, wherever one is put in.
func TestPathsRise(t *testing.T) {
	for _, want := range [][]string{{"a", "b", "c", "d"}, {"a", "a.b", "a0", "ab"}, {"0", "10", "2", "a"}, {"X", "_", "a.0", "a.0.b"}} {
		for a := range 4 {
			for b := range 4 {
				for c := range 4 {
					l := slices.Clone(want)
					l[0], l[a] = l[a], l[0]
					l[1], l[b] = l[b], l[1]
					l[2], l[c] = l[c], l[2]
					s := after(t, "make a")
					for _, p := range l {
						s = takes(t, s, api.Stmt{Verb: "index", Coll: "a", Path: p})
					}
					is(t, fmt.Sprint(l), toldState(s), "a ("+strings.Join(want, ", ")+")")
					s = takes(t, s, api.Stmt{Verb: "unindex", Coll: "a", Path: want[a]})
					is(t, "without "+want[a], toldState(s), "a ("+strings.Join(slices.Concat(want[:a], want[a+1:]), ", ")+")")
				}
			}
		}
	}
}

// P19.1: unindex: a path that is not there, or no more.
func TestUnindex(t *testing.T) {
	s := after(t, "make a; index a x.y; index a z; make b; index b x")
	tells(t, s, "unindex a x; unindex a x.y.z; unindex a y; unindex a zz; unindex b z", "8; 8; 8; 8; 8", "a (x.y, z); b (x)")
	tells(t, s, "unindex a x.y; unindex a x.y; unindex b x; unindex a z; index a x", "0; 8; 0; 0; 0", "a (x); b")
}

// P19.1: insert: of an id that is there, and of one that is not; in each collection by itself.
func TestInsert(t *testing.T) {
	tells(t, after(t, "make a; make b"), `insert a {"id":1,"x":1}; insert a {"id":1}; insert a {"id":1,"x":1}; insert b {"id":1}; insert a {"id":"1"}; insert a {"id":"1","y":[]}`, "0; 9; 9; 0; 0; 9", `a {"id":1,"x":1} {"id":"1"}; b {"id":1}`)
	tells(t, after(t, "make a"), `insert a {"z":1,"id":2,"a":{"id":1}}; insert a {"id":1}; insert a {"x":{"id":1},"id":2}`, "0; 0; 9", `a {"id":1} {"a":{"id":1},"id":2,"z":1}`)
	// A document takes no more than its own place.
	tells(t, after(t, `make a; index a x; insert a {"id":1}`), `delete a; insert a {"id":1,"x":2}; insert a {"id":1}`, "0 n 1; 0; 9", `a (x) {"id":1,"x":2}`)
}

// rising are ids of both kinds, in their order.
var rising = []string{"-9223372036854775808", "-257", "-256", "-3", "-1", "0", "1", "2", "10", "127", "128", "256", "9223372036854775807", `""`, `"\u0000"`, `"0"`, `"1"`, `"A"`, `"Z"`, `"a"`, `"a "`, `"aa"`, `"ab"`, `"b"`, `"b` + letters(63) + `"`, `"ä"`, `"€"`, `"😀"`}

// P19.1: documents rise by ids, of each kind that an id may have, wherever one is put in.
func TestIdsRise(t *testing.T) {
	n := len(rising)
	var want []string
	for _, id := range rising {
		want = append(want, sample.JSON(document(val(id))))
	}
	for _, step := range []int{1, 3, 5, 9, 11, 13, 15, 17, 19, 23, 25, 27} {
		s := after(t, "make a")
		for i := range n {
			s = on(t, s, `insert a {"id":`+rising[(i*step+step)%n]+`}`)
		}
		is(t, "all ids", toldState(s), "a "+strings.Join(want, " "))
		for i, id := range rising {
			tells(t, s, `insert a {"id":`+id+`}; get a `+id+`; find a where id = `+id, "9; 0 "+want[i]+"; 0 n 1 "+want[i], toldState(s))
			without := on(t, s, `delete a where id = `+id)
			is(t, "without "+id, toldState(without), "a "+strings.Join(slices.Concat(want[:i], want[i+1:]), " "))
			tells(t, without, `get a `+id+`; replace a {"id":`+id+`}; insert a {"id":`+id+`}`, "17; 17; 0", toldState(s))
		}
	}
}

// P19.1: replace: of an id that is there, and of one that is not; what stood there is gone, the place is kept.
func TestReplace(t *testing.T) {
	s := after(t, `make a; index a x; insert a {"id":1,"x":1}; insert a {"id":2,"x":2,"y":2}; insert a {"id":"2"}; make b`)
	tells(t, s, `replace a {"id":3}; replace a {"id":"1"}; replace a {"id":0,"x":1}; replace b {"id":1}`, "17; 17; 17; 17", toldState(s))
	tells(t, s, `replace a {"id":2,"z":[1]}; get a 2; replace a {"id":"2","x":1}; replace a {"id":1}; replace a {"id":1,"x":1}`, `0; 0 {"id":2,"z":[1]}; 0; 0; 0`, `a (x) {"id":1,"x":1} {"id":2,"z":[1]} {"id":"2","x":1}; b`)
}

// P19.1: get: the document of that id, all of it, and no other one; N is 0.
func TestGet(t *testing.T) {
	s := after(t, `make a; insert a {"id":1,"x":[1,{"y":null}]}; insert a {"id":"1"}; insert a {"id":2,"z":true}; make b; insert b {"id":3}`)
	tells(t, s, `get a 1; get a "1"; get a 2; get a 3; get a ""; get b 3; get b 1; get a -1`, `0 {"id":1,"x":[1,{"y":null}]}; 0 {"id":"1"}; 0 {"id":2,"z":true}; 17; 17; 0 {"id":3}; 17; 17`, toldState(s))
}

// some are documents of one collection.
func some(t *testing.T) api.State {
	t.Helper()
	return after(t, `make a; index a x; insert a {"id":3,"x":3}; insert a {"id":1,"x":2,"y":{"a":1,"b":2}}; insert a {"id":"a"}; insert a {"id":4,"x":4}; insert a {"id":2,"x":1}; make b; insert b {"id":1,"x":1}`)
}

// P19.1: find: where, order, limit, show; N is how many are told.
func TestFind(t *testing.T) {
	s := some(t)
	tells(t, s, "find a; find b; find a where x > 2; find a where x > 9", `0 n 5 {"id":1,"x":2,"y":{"a":1,"b":2}} {"id":2,"x":1} {"id":3,"x":3} {"id":4,"x":4} {"id":"a"}; 0 n 1 {"id":1,"x":1}; 0 n 2 {"id":3,"x":3} {"id":4,"x":4}; 0`, toldState(s))
	tells(t, s, "find a order by x desc limit 2; find a limit 1 show y.b, id; find a where x exists limit 3 show x; find a order by y, x show x", `0 n 2 {"id":4,"x":4} {"id":3,"x":3}; 0 n 1 {"id":1,"y":{"b":2}}; 0 n 3 {"x":2} {"x":1} {"x":3}; 0 n 5 {} {"x":1} {"x":3} {"x":4} {"x":2}`, toldState(s))
	tells(t, after(t, "make a"), "find a; find a where x exists order by x limit 3 show y", "0; 0", "a")
}

// many is a collection of n documents, of which each third one has an x.
func many(t *testing.T, n int) api.State {
	t.Helper()
	s := after(t, "make a")
	for i := range n {
		id := i * 11 % n
		l := fmt.Sprintf(`insert a {"id":%d}`, id)
		if id%3 == 0 {
			l = fmt.Sprintf(`insert a {"id":%d,"x":1}`, id)
		}
		s = on(t, s, l)
	}
	return s
}

// P19.1: find tells at most MaxDocs, count, update and delete have no such limit.
func TestMany(t *testing.T) {
	for _, n := range []int{1, 2, 63, 64, 65, 129, 200} {
		s := many(t, n)
		for l, want := range map[string]int{"find a": min(n, 64), "find a limit 64": min(n, 64), "find a limit 2": min(n, 2), "find a where x exists": min((n+2)/3, 64), "count a": n, "count a where x exists": (n + 2) / 3, "update a set y = 1": n, "update a where x exists unset x": (n + 2) / 3, "delete a": n, "delete a where not x exists": n - (n+2)/3} {
			next, r := runs(t, s, l)
			docs, _ := plain.Docs(next, "a")
			left := n
			if strings.HasPrefix(l, "delete") {
				left = n - want
			}
			if r.E != api.OK || r.N != want || len(docs) != left || strings.HasPrefix(l, "find") != (len(r.Docs) == want && want > 0) {
				t.Errorf("%s of %d: %d, n %d, %d told, %d left", l, n, int(r.E), r.N, len(r.Docs), len(docs))
			}
		}
	}
}

// P19.1: count: with a Where and without, of a collection with documents and without.
func TestCount(t *testing.T) {
	s := some(t)
	tells(t, s, `count a; count a where x exists; count a where not x exists; count a where x = 9; count a where x < 3 or y.a = 1; count a where id != 1; count b; count b where x = 2`, "0 n 5; 0 n 4; 0 n 1; 0; 0 n 2; 0 n 4; 0 n 1; 0", toldState(s))
	tells(t, after(t, "make a"), "count a; count a where x = 1; count a where not x = 1", "0; 0; 0", "a")
}

// P19.1: update: of those of which Where holds alone, each change behind the other; N is how many, changed or not.
func TestUpdate(t *testing.T) {
	s := some(t)
	tells(t, s, "update a where x > 2 add x 10, set z = [1]", "0 n 2", `a (x) {"id":1,"x":2,"y":{"a":1,"b":2}} {"id":2,"x":1} {"id":3,"x":13,"z":[1]} {"id":4,"x":14,"z":[1]} {"id":"a"}; b {"id":1,"x":1}`)
	tells(t, s, "update a unset x, set y.a = 0", "0 n 5", `a (x) {"id":1,"y":{"a":0,"b":2}} {"id":2,"y":{"a":0}} {"id":3,"y":{"a":0}} {"id":4,"y":{"a":0}} {"id":"a","y":{"a":0}}; b {"id":1,"x":1}`)
	tells(t, s, "update a where x = 9 add q 1; update a where id = 1 set y.a = 1; update a where x = 1 unset q", "0; 0 n 1; 0 n 1", toldState(s))
	// What is changed may be what Where asks for: each document is asked and changed once.
	tells(t, s, "update a where x >= 2 add x -1; update a where x >= 2 add x -1", "0 n 3; 0 n 2", `a (x) {"id":1,"x":1,"y":{"a":1,"b":2}} {"id":2,"x":1} {"id":3,"x":1} {"id":4,"x":2} {"id":"a"}; b {"id":1,"x":1}`)
	tells(t, after(t, "make a"), "update a add x 1; update a where x = 1 set id.x = 1", "0; 10", "a")
}

// P19.1: update: where one document of many fails, nothing is changed; of several the error of the lowest id is told.
func TestUpdateFails(t *testing.T) {
	s := after(t, `make a; insert a {"id":5,"x":1}; insert a {"id":1,"x":1}; insert a {"id":3,"x":"s"}; insert a {"id":4}; insert a {"id":2,"x":9223372036854775807}; insert a {"id":"x","x":1}; insert a {"id":0,"x":1}`)
	was := toldState(s)
	// 0 and 1 are changed well; 2 fails by ErrNumber, 3 by ErrKind, 4 by ErrName.
	tells(t, s, "update a add x 1; update a where id > 2 add x 1; update a where id > 3 add x 1; update a where id > 0 add x 1; update a where x = 1 or id = 4 add x 1", "12; 7; 8; 12; 8", was)
	tells(t, s, "update a where x exists set y = 1, add x 1; update a where id = 3 or id = 4 add x 1; update a where id = 4 or id = 2 set z = 1, add x 1", "12; 7; 12", was)
	tells(t, s, "update a where x = 1 add x 1", "0 n 4", `a {"id":0,"x":2} {"id":1,"x":2} {"id":2,"x":9223372036854775807} {"id":3,"x":"s"} {"id":4} {"id":5,"x":2} {"id":"x","x":2}`)
	// The last one alone fails, and the first one alone.
	tells(t, after(t, `make a; insert a {"id":1,"x":1}; insert a {"id":2,"x":1}; insert a {"id":"z"}`), "update a add x 1; update a push x 1; update a push y 1", "8; 7; 8", `a {"id":1,"x":1} {"id":2,"x":1} {"id":"z"}`)
	tells(t, after(t, `make a; insert a {"id":1}; insert a {"id":2,"x":1}; insert a {"id":"z","x":1}`), "update a add x 1; update a where x = 1 add x 1", "8; 0 n 2", `a {"id":1} {"id":2,"x":2} {"id":"z","x":2}`)
}

// P19.1: a document keeps its id, and its place, whatever a replace or an update makes of it.
func TestIdsAreKept(t *testing.T) {
	s := some(t)
	tells(t, s, "update a set id = 9; update a where id = 1 unset id; update a add id 1; update a push id.x 1", "10; 10; 10; 10", toldState(s))
	s = on(t, s, `update a set a = 1, set zz = 2, unset x; replace a {"z":1,"id":"a","a":2}; replace a {"id":3}`)
	is(t, "the state", toldState(s), `a (x) {"a":1,"id":1,"y":{"a":1,"b":2},"zz":2} {"a":1,"id":2,"zz":2} {"id":3} {"a":1,"id":4,"zz":2} {"a":2,"id":"a","z":1}; b {"id":1,"x":1}`)
}

// P19.1: delete: those of which Where holds are gone, wherever they stand, and no others.
func TestDelete(t *testing.T) {
	s := some(t)
	tells(t, s, "delete a where x = 9; delete a where x > 2; delete a where x > 2; delete a; delete a", "0; 0 n 2; 0; 0 n 3; 0", `a (x); b {"id":1,"x":1}`)
	for where, left := range map[string]string{"id = 1": "2 3 4 a", "id = 2 or id = 3": "1 4 a", `id = "a"`: "1 2 3 4", "x exists": "a", "not x exists": "1 2 3 4", "id = 1 or id = 3 or id = \"a\"": "2 4", "id < 3": "3 4 a", "id > 2": "1 2 a"} {
		next, r := runs(t, s, "delete a where "+where)
		docs, _ := plain.Docs(next, "a")
		var got []string
		for _, v := range docs {
			for _, f := range v.F {
				if f.Name == "id" {
					got = append(got, strings.Trim(sample.JSON(f.V), `"`))
				}
			}
		}
		if is(t, "delete a where "+where, strings.Join(got, " "), left); r.N != 5-len(docs) {
			t.Errorf("%s: n %d, %d left", where, r.N, len(docs))
		}
	}
}
