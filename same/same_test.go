package same_test

import (
	"testing"

	"tidemark/api"
	"tidemark/same"
	"tidemark/sample"
)

// x and y are tests.
var x, y = sample.Exists("x"), sample.Exists("y")

// withValue are a statement and conditions that hold v.
func withValue(v api.Val) ([]api.Cond, []api.Stmt) {
	test := sample.Test("x", "=", v)
	return []api.Cond{test, sample.Not(test), sample.Or(test, x), sample.And(x, test)},
		[]api.Stmt{{Verb: "get", V: v}, {Verb: "update", Changes: []api.Change{sample.Change("set", "x", v)}}, {Verb: "find", Where: test}}
}

// read are conditions and statements that could have been read, no two the same.
func read() ([]api.Cond, []api.Stmt) {
	conds := []api.Cond{{}, {Op: "a"}, {Path: "x"}, x, y, sample.Or(x, y), sample.Or(y, x), sample.And(x, y), sample.Or(x), sample.Or(x, y, x), sample.Not(x), sample.Not(sample.Not(x)), {Op: "or", Path: "x", L: []api.Cond{x, y}}, {L: []api.Cond{x}}, {L: []api.Cond{{}}}}
	stmts := []api.Stmt{{}, {Verb: "a"}, {Coll: "a"}, {Path: "a"}, {Limit: 1}, {Limit: -1}, {Where: x}, {Where: sample.Or(x, y)}, {Order: []api.Order{{}}}, {Order: []api.Order{{Path: "a"}}}, {Order: []api.Order{{Desc: true}}}, {Order: []api.Order{{}, {}}}, {Show: []string{""}}, {Show: []string{"a"}}, {Show: []string{"a", "b"}}, {Show: []string{"b", "a"}}, {Changes: []api.Change{{}}}, {Changes: []api.Change{{Do: "a"}}}, {Changes: []api.Change{{Path: "a"}}}, {Changes: []api.Change{{}, {}}}}
	good := append(sample.Nested(), api.Val{}, sample.Bool(0), sample.Bool(1), sample.Int(0), sample.Int(1), sample.Text(""), sample.Text("a"), sample.List(), sample.List(sample.Null()), sample.Doc(), sample.Doc(sample.Field("a", sample.Null())))
	for _, v := range good {
		c, s := withValue(v)
		conds, stmts = append(conds, c...), append(stmts, s...)
	}
	return conds, stmts
}

// P15.2: what was read is the same as itself, and as no other; nil and an empty list are one.
func TestRead(t *testing.T) {
	conds, stmts := read()
	for i, a := range stmts {
		for k, b := range stmts {
			if same.Stmt(sample.StmtWithRoom(a), b) != (i == k) {
				t.Errorf("%s and %s", sample.ShowStmt(a), sample.ShowStmt(b))
			}
		}
	}
	for i, a := range conds {
		for k, b := range conds {
			if same.Cond(sample.StmtWithRoom(api.Stmt{Where: a}).Where, b) != (i == k) {
				t.Errorf("%s and %s", sample.ShowCond(a), sample.ShowCond(b))
			}
		}
	}
	empty := api.Val{L: []api.Val{}, F: []api.Field{}}
	if !same.Cond(api.Cond{V: empty, L: []api.Cond{}}, api.Cond{}) || !same.Stmt(api.Stmt{V: empty, Order: []api.Order{}, Show: []string{}, Changes: []api.Change{}}, api.Stmt{}) {
		t.Error("nil and an empty list are not one")
	}
}

// P15.2: what holds a value that is not good is nothing that was read.
func TestNotRead(t *testing.T) {
	bad := []api.Val{{N: 1}, {S: "a"}, {L: []api.Val{{}}}, {F: []api.Field{{}}}}
	for _, f := range sample.Bad()[1:] {
		bad = append(bad, f.V)
	}
	conds, stmts := read()
	for _, v := range bad {
		c, s := withValue(v)
		for _, a := range append(c, api.Cond{V: v}) {
			for _, b := range conds {
				if same.Cond(a, b) {
					t.Errorf("%s is %s", sample.Cut(sample.ShowCond(a)), sample.ShowCond(b))
				}
			}
		}
		for _, a := range append(s, api.Stmt{V: v}) {
			for _, b := range stmts {
				if same.Stmt(a, b) {
					t.Errorf("%s is %s", sample.Cut(sample.ShowStmt(a)), sample.ShowStmt(b))
				}
			}
		}
	}
}

// values are values, good and bad, no two the same.
func values() []api.Val {
	l := append(sample.Nested(), api.Val{}, api.Val{N: 1}, api.Val{S: "a"}, api.Val{L: []api.Val{{}}}, api.Val{L: []api.Val{{N: 1}}}, api.Val{F: []api.Field{{}}}, api.Val{F: []api.Field{{Name: "a"}}}, sample.Bool(0), sample.Bool(1), sample.Int(0), sample.Int(1), sample.Text(""), sample.List(), sample.Doc(), sample.DeepLists(1<<16), sample.DeepLists(1<<16-1), sample.DeepDocs(1<<16))
	for _, f := range sample.Bad()[1:] {
		l = append(l, f.V)
	}
	return l
}

// R4, P19.2: a value, good or not, is the same as itself, and as no other; nil and an empty list are one.
func TestValue(t *testing.T) {
	l := values()
	for i, a := range l {
		a = sample.WithRoom(a)
		for k, b := range l {
			if same.Value(a, b) != (i == k) || same.Value(b, a) != (i == k) {
				t.Errorf("%s and %s", sample.Short(a), sample.Short(b))
			}
		}
	}
	if !same.Value(api.Val{Kind: api.List, L: []api.Val{}, F: []api.Field{}}, sample.List()) {
		t.Error("nil and an empty list are not one")
	}
}
