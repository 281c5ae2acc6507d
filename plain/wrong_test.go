package plain_test

import (
	"slices"
	"strings"
	"testing"

	"tidemark/api"
	"tidemark/check"
	"tidemark/plain"
	"tidemark/sample"
)

// noVerbs begin no statement.
var noVerbs = []string{"", "foo", "Make", "MAKE", "make ", " get", "get a", "inserts", "where", "order", "set", "push", "id", "\xff", "find\x00", letters(1 << 16)}

// P19.1: ErrArg, if Verb is none, be there such a collection or not; ahead of what the collection would tell.
func TestNoVerb(t *testing.T) {
	for _, s := range []api.State{{}, some(t)} {
		for _, verb := range noVerbs {
			for _, x := range []api.Stmt{{}, {Coll: "a"}, {Coll: "c"}, {Coll: "a", V: number(1)}, {Coll: "a", V: val(`{"id":7}`)}, {Coll: "a", Path: "z"}, {Coll: "a", Where: sample.Or()}, {Coll: "a", Limit: 3}} {
				x.Verb = verb
				refuses(t, s, x, api.ErrArg)
			}
		}
	}
}

// P19.1: check.Stmt's error ahead of all others, whatever the Verb is, be there such a collection or not.
func TestNoSense(t *testing.T) {
	in := sample.Test("x", "in", null)
	orders := slices.Repeat([]api.Order{{Path: "x"}}, 2)
	faults := map[api.Errno][]api.Stmt{
		api.ErrArg:    {{Limit: -1}, {Limit: 65}, {Limit: 65, Where: in, Order: orders}},
		api.ErrKind:   {{Where: in}, {Where: sample.Not(in), Order: orders}},
		api.ErrLimit:  {{Order: make([]api.Order, 5)}, {Show: make([]string, 9)}, {Changes: make([]api.Change, 9)}},
		api.ErrDup:    {{Order: orders}, {Show: []string{"x", "x.y"}}, {Changes: stmt("update a set x = 1, set x.y = 1").Changes}},
		api.ErrSyntax: {{Show: []string{"x", "y.0"}}, {Show: []string{""}}},
		api.ErrKey:    {{Changes: stmt("update a set id = 1").Changes}},
	}
	s := some(t)
	for e, l := range faults {
		for _, x := range l {
			for _, x.Verb = range append(sample.Verbs(), noVerbs...) {
				for _, x.Coll = range []string{"a", "c"} {
					x.V, x.Path = document(number(9)), "z"
					if x.Verb == "get" {
						x.V = number(1)
					}
					refuses(t, s, x, e)
					refuses(t, api.State{}, x, e)
				}
			}
		}
	}
	for e, l := range map[api.Errno][]api.Stmt{
		api.ErrKind: {{Verb: "insert"}, {Verb: "replace", V: number(1)}, {Verb: "insert", V: list(document(number(1)))}},
		api.ErrKey:  {{Verb: "insert", V: doc()}, {Verb: "replace", V: document(null)}, {Verb: "insert", V: document(text(letters(65)))}, {Verb: "get"}, {Verb: "get", V: document(number(1))}, {Verb: "index", Path: "id"}, {Verb: "unindex", Path: "id.x"}},
	} {
		for _, x := range l {
			for _, x.Coll = range []string{"a", "c"} {
				refuses(t, s, x, e)
			}
		}
	}
}

// P19.1: find tells eval.Find's ErrArg of what is no find that a text tells; count, update and delete tell eval.Holds' ErrForm of what is no condition, whether there are documents or none.
func TestNoCondition(t *testing.T) {
	for _, s := range []api.State{some(t), after(t, "make a")} {
		for _, c := range sample.BadConds() {
			for _, where := range []api.Cond{c, sample.Or(sample.Exists("x"), c)} {
				want := map[string]api.Errno{"find": api.ErrArg, "count": api.ErrForm, "delete": api.ErrForm, "update": api.ErrForm}
				for verb, e := range want {
					x := api.Stmt{Verb: verb, Coll: "a", Where: where}
					if f := check.Stmt(x); f != api.OK {
						e = f
					}
					refuses(t, s, x, e)
				}
			}
		}
		for _, x := range []api.Stmt{{Path: "x"}, {V: null}, {Order: []api.Order{{Path: "01"}}}, {Changes: stmt("update a set x = 1").Changes}} {
			x.Verb, x.Coll = "find", "a"
			refuses(t, s, x, api.ErrArg)
		}
	}
}

// P19.1: update tells eval.Apply's ErrForm of a Do that is none, and its errors of path, if there is a document to be changed.
func TestNoChange(t *testing.T) {
	s := some(t)
	for e, l := range map[api.Errno][]api.Change{
		api.ErrForm:   {{Do: "foo", Path: "z"}, {}, {Do: "set", Path: "z"}, sample.Change("push", "z", api.Val{Kind: 9})},
		api.ErrSyntax: {sample.Change("set", "01", null), sample.Change("unset", "", null)},
		api.ErrText:   {sample.Change("set", "z", text("\xff"))},
		api.ErrName:   {sample.Change("push", "zz", null), sample.Change("add", "zz", number(1))},
		api.ErrDeep:   {sample.Change("set", "z", sample.DeepLists(8))},
		api.ErrBig:    {sample.Change("set", "z", text(letters(2045)))},
		api.ErrLimit:  {sample.Change("set", "z", sample.Nulls(33))},
	} {
		for _, c := range l {
			x := api.Stmt{Verb: "update", Coll: "a", Changes: []api.Change{c}}
			refuses(t, s, x, e)
			x.Changes = append(stmt("update a set q = 1").Changes, c)
			refuses(t, s, x, e)
			x.Where = sample.Test("id", "=", text("a"))
			refuses(t, s, x, e)
			x.Where = sample.Test("x", "=", number(99))
			is(t, "of no document", toldState(takes(t, s, x)), toldState(s))
		}
	}
	// Without changes each document stays as it is, and is counted.
	next, r := does(t, s, api.Stmt{Verb: "update", Coll: "a"})
	is(t, "no changes", told(r)+" "+toldState(next), "0 n 5 "+toldState(s))
}

// P19.1, R6: what is not said to be refused is taken: names and paths that no text tells, parts that a Verb does not ask for.
func TestAnyNames(t *testing.T) {
	s := some(t)
	for _, name := range []string{"", "1", "a b", "a.b", "\u00e4", "\xff", letters(25), letters(1 << 16)} {
		next := takes(t, s, api.Stmt{Verb: "make", Coll: name})
		refuses(t, next, api.Stmt{Verb: "make", Coll: name}, api.ErrThere)
		next = takes(t, next, api.Stmt{Verb: "insert", Coll: name, V: document(number(1))})
		next, r := does(t, next, api.Stmt{Verb: "delete", Coll: name})
		is(t, "delete", told(r), "0 n 1")
		next = takes(t, next, api.Stmt{Verb: "drop", Coll: name})
		is(t, "the state", toldState(next), toldState(s))
	}
	for _, p := range sample.BadPaths() {
		next := takes(t, s, api.Stmt{Verb: "index", Coll: "a", Path: p})
		refuses(t, next, api.Stmt{Verb: "index", Coll: "a", Path: p}, api.ErrThere)
		next = takes(t, next, api.Stmt{Verb: "unindex", Coll: "a", Path: p})
		is(t, "the state", toldState(next), toldState(s))
		refuses(t, s, api.Stmt{Verb: "unindex", Coll: "a", Path: p}, api.ErrName)
	}
	beside := stmt("find b where x = 1 order by x limit 3 show x")
	beside.Path, beside.V, beside.Changes = "z", document(number(7)), stmt("update a set q = 1").Changes
	for verb, want := range map[string]string{"make": "9", "drop": "0", "index": "0", "unindex": "8", "insert": "0", "replace": "17", "count": "0 n 1", "delete": "0 n 1", "update": "0 n 1"} {
		x := beside
		x.Verb = verb
		_, r := does(t, s, x)
		is(t, verb, told(r), want)
	}
}

// P19.1, P19.3, R6: a document that is not good, whose id is one, is taken as check.Stmt takes it, and got; find, count, update and delete tell eval's error then.
func TestDocumentsThatAreNotGood(t *testing.T) {
	s := after(t, `make a; insert a {"id":1}; insert a {"id":3}`)
	for _, f := range sample.Bad() {
		bad := doc(field("id", number(2)), field("x", f.V))
		next := takes(t, s, api.Stmt{Verb: "insert", Coll: "a", V: bad})
		refuses(t, next, api.Stmt{Verb: "insert", Coll: "a", V: document(number(2))}, api.ErrThere)
		_, r := does(t, next, api.Stmt{Verb: "get", Coll: "a", V: number(2)})
		is(t, "get", told(r), "0 "+sample.Show(bad))
		for _, verb := range []string{"find", "count", "delete", "update"} {
			refuses(t, next, api.Stmt{Verb: verb, Coll: "a"}, errorOf(bad))
		}
		// Another one can stand in its place.
		next = takes(t, next, stmt(`replace a {"id":2}`))
		is(t, "the state", toldState(next), `a {"id":1} {"id":2} {"id":3}`)
	}
	for _, id := range []api.Val{text("\xff"), text("a\xc3"), {Kind: api.Int, N: 1, S: "a"}, {Kind: api.Text, S: "a", N: 1}, {Kind: api.Int, N: 1, S: "b"}} {
		next := takes(t, s, api.Stmt{Verb: "insert", Coll: "a", V: document(id)})
		refuses(t, next, api.Stmt{Verb: "insert", Coll: "a", V: document(id)}, api.ErrThere)
		_, r := does(t, next, api.Stmt{Verb: "get", Coll: "a", V: id})
		is(t, "get", told(r), "0 "+sample.Show(document(id)))
		refuses(t, s, api.Stmt{Verb: "get", Coll: "a", V: id}, api.ErrEnd)
	}
}

// errorOf is check.Id's error.
func errorOf(v api.Val) api.Errno {
	_, e := check.Id(v)
	return e
}

// P19.2: Run of a text that check.Text refuses: its error, whatever the state is.
func TestRunOfNoText(t *testing.T) {
	for _, s := range []api.State{{}, some(t)} {
		for text, e := range map[string]api.Errno{
			"": api.ErrSyntax, "foo": api.ErrSyntax, "foo a": api.ErrSyntax, "make": api.ErrSyntax, "make a b": api.ErrSyntax, "make 1": api.ErrSyntax, "find a where": api.ErrSyntax, "drop a ?": api.ErrSyntax, "Make c": api.ErrSyntax,
			"make " + letters(25): api.ErrLimit, `insert a {"id":1,"id":2}`: api.ErrDup, "get a 01": api.ErrNumber, "get a \"\xff\"": api.ErrText, "insert a [[[[[[[[[]]]]]]]]]": api.ErrDeep, strings.Repeat(" ", 8193): api.ErrBig,
			"insert a {}": api.ErrKey, "insert a 1": api.ErrKind, "get a null": api.ErrKey, "index c id": api.ErrKey, "find a limit 65": api.ErrArg, "find c order by x, x": api.ErrDup, "count a where x in 1": api.ErrKind, "update c set id = 1": api.ErrKey, "find a show x.0": api.ErrSyntax,
		} {
			if _, f := check.Text(text); f != e {
				t.Errorf("check.Text(%q): %d, want %d", cut(text), int(f), int(e))
			}
			_, r := runs(t, s, text)
			is(t, "Run of "+text, told(r), told(api.Reply{E: e}))
		}
	}
}

// P19.2: Run of a text does what Do does of its statement, however it is spelt.
func TestRun(t *testing.T) {
	s := some(t)
	for _, text := range []string{"make c", "drop a", "index a z", "unindex a x", `insert a {"id":7}`, `replace a {"id":1}`, "get a 1", "find a where x > 1 order by x desc limit 2 show x", "count a where not x = 1", "update a where x = 1 set y = 1", "delete a where x = 1", "get c 1"} {
		want, q := does(t, s, stmt(text))
		for _, spelt := range []string{text, "  " + strings.ReplaceAll(text, " ", "\n\t ") + " "} {
			next, r := runs(t, s, spelt)
			is(t, spelt, told(r)+" "+toldState(next), told(q)+" "+toldState(want))
		}
	}
	// A text that is at its limit: its one blank between any two tokens makes no more of it.
	long := strings.Repeat(" ", 8192-len("count a")) + "count a"
	_, r := plain.Run(s, long)
	is(t, "a text of 8192 bytes", told(r), "0 n 5")
}
