package sample_test

import (
	"maps"
	"math"
	"math/rand"
	"slices"
	"strings"
	"testing"

	"tidemark/api"
	"tidemark/check"
	"tidemark/eval"
	"tidemark/path"
	"tidemark/sample"
	"tidemark/value"
)

// Show and ShowRoom tell values apart; of nil and an empty list Show tells the same.
func TestShow(t *testing.T) {
	l := []api.Val{{}, sample.Null(), sample.Bool(0), sample.Int(-5), sample.Int(0), sample.Text(""), sample.Text("0"), sample.List(), sample.List(sample.Null()), sample.Doc(), sample.Doc(sample.Field("a", sample.Null())), sample.Doc(sample.Field("b", sample.Null())), sample.Doc(sample.Field("a", sample.List())), sample.List(sample.List(sample.Null()), sample.Null()), sample.List(sample.List(sample.Null(), sample.Null()))}
	for i, a := range l {
		for k, b := range l {
			if (sample.Show(a) == sample.Show(b)) != (i == k) || (sample.ShowRoom(a) == sample.ShowRoom(b)) != (i == k) {
				t.Errorf("%s and %s", sample.Show(a), sample.Show(b))
			}
		}
		r := sample.WithRoom(a)
		if sample.Show(r) != sample.Show(a) || sample.ShowRoom(r) == sample.ShowRoom(a) {
			t.Errorf("%s with room: %s", sample.Show(a), sample.ShowRoom(r))
		}
	}
	if a, b := (api.Val{L: []api.Val{}, F: []api.Field{}}), (api.Val{}); sample.Show(a) != sample.Show(b) {
		t.Errorf("%s, %s", sample.Show(a), sample.Show(b))
	}
	if s := sample.Letters(200); sample.Cut(s) != s || sample.Cut(s+"b") != s+"..." {
		t.Error("Cut")
	}
}

// Apart knows lists that share memory, be it spare room, from those that do not.
func TestApart(t *testing.T) {
	nested := func() []api.Val {
		l := sample.Nested()
		for i, v := range l {
			l[i] = sample.WithRoom(v)
		}
		return l
	}
	if !sample.Apart(nested()) || !sample.Apart(nested(), make([]byte, 3), make([]byte, 0, 3), nil) {
		t.Error("what lies apart is told to share memory")
	}
	v, b := sample.WithRoom(sample.Nested()[0]), make([]byte, 3)
	shared := [][]api.Val{
		{v, v},
		{sample.List(v), sample.Doc(sample.Field("a", v))},
		{{L: v.F[0].V.L[:0]}, v},
		{{F: v.F[:0]}, v},
		{{F: v.F[2:2]}, v},
	}
	for i, l := range shared {
		if sample.Apart(l) {
			t.Errorf("%d: what shares memory is told to lie apart", i)
		}
	}
	if sample.Apart(nil, b, b) || sample.Apart(nil, b[:0], b[2:]) {
		t.Error("bytes that share memory are told to lie apart")
	}
}

// stmts are statements of which each differs from the others in one part at least.
func stmts() []api.Stmt {
	x := sample.Exists("x")
	l := []api.Stmt{{}, {Verb: "a"}, {Coll: "a"}, {Path: "a"}, {V: sample.Null()}, {Limit: 1}, {Limit: -1}, {Order: []api.Order{{}}}, {Order: []api.Order{{Path: "a"}}}, {Order: []api.Order{{Desc: true}}}, {Show: []string{""}}, {Show: []string{"", ""}}, {Show: []string{"a"}}}
	for _, c := range []api.Cond{x, sample.Test("x", "=", sample.Null()), sample.Or(x), sample.Or(x, x), sample.And(x, x), sample.Not(x), sample.Or(sample.Or(x), x), sample.Or(sample.Or(x, x)), sample.Within(3, x, sample.Not)} {
		l = append(l, api.Stmt{Where: c})
	}
	for _, c := range []api.Change{{}, sample.Change("a", "", api.Val{}), sample.Change("", "a", api.Val{}), sample.Change("", "", sample.Nulls(2))} {
		l = append(l, api.Stmt{Changes: []api.Change{c}}, api.Stmt{Changes: []api.Change{c, {Do: "b"}}})
	}
	return l
}

// ShowStmt and ShowStmtRoom tell statements apart, ShowCond their conditions; of nil and an empty list ShowStmt tells the same.
func TestShowStmt(t *testing.T) {
	l := stmts()
	for i, a := range l {
		for k, b := range l {
			if (sample.ShowStmt(a) == sample.ShowStmt(b)) != (i == k) || (sample.ShowStmtRoom(a) == sample.ShowStmtRoom(b)) != (i == k) {
				t.Errorf("%s and %s", sample.ShowStmt(a), sample.ShowStmt(b))
			}
			if a.Where.Op+b.Where.Op != "" && (sample.ShowCond(a.Where) == sample.ShowCond(b.Where)) != (i == k) {
				t.Errorf("%s and %s", sample.ShowCond(a.Where), sample.ShowCond(b.Where))
			}
		}
		r := sample.StmtWithRoom(a)
		if sample.ShowStmt(r) != sample.ShowStmt(a) || sample.ShowStmtRoom(r) == sample.ShowStmtRoom(a) {
			t.Errorf("%s with room: %s", sample.ShowStmt(a), sample.ShowStmtRoom(r))
		}
	}
	if a, b := (api.Stmt{Where: api.Cond{L: []api.Cond{}}, Order: []api.Order{}, Show: []string{}, Changes: []api.Change{}}), (api.Stmt{}); sample.ShowStmt(a) != sample.ShowStmt(b) {
		t.Errorf("%s, %s", sample.ShowStmt(a), sample.ShowStmt(b))
	}
}

// StmtsApart knows statements that share memory in any of their lists from those that do not.
func TestStmtsApart(t *testing.T) {
	room := func() []api.Stmt {
		l := stmts()
		for i, x := range l {
			l[i] = sample.StmtWithRoom(x)
		}
		return l
	}
	if !sample.StmtsApart(room()...) || !sample.StmtsApart(append(room(), room()...)...) {
		t.Error("what lies apart is told to share memory")
	}
	x := sample.StmtWithRoom(api.Stmt{Where: sample.Or(sample.Exists("x"), sample.Test("x", "=", sample.Nulls(1))), Changes: []api.Change{sample.Change("a", "b", sample.Nulls(1))}})
	for i, y := range []api.Stmt{{V: x.V}, {Where: x.Where}, {Where: api.Cond{L: x.Where.L[:0]}}, {V: x.Where.L[1].V}, {Where: x.Where.L[0]}, {Order: x.Order}, {Show: x.Show}, {Changes: x.Changes[:0]}, {V: x.Changes[0].V}} {
		if sample.StmtsApart(x, y) {
			t.Errorf("%d: what shares memory is told to lie apart", i)
		}
	}
}

// Statements by chance are of each verb, each with just such parts as it has, and not all the same.
func TestStmtByChance(t *testing.T) {
	m := sample.Maker{Chance: rand.New(rand.NewSource(3)), Texts: []string{"x"}, Names: []string{"a", "b"}, Firsts: []string{"p", "q"}, Steps: []string{"r", "0"}}
	seen, parts, all := map[string]int{}, map[string]int{}, map[string]int{}
	for range 3000 {
		x := m.Stmt("c")
		seen[x.Verb]++
		all[sample.ShowStmt(x)]++
		has := ""
		for _, part := range []struct {
			name  string
			there bool
		}{{"path", x.Path != ""}, {"value", x.V.Kind != 0}, {"where", x.Where.Op != ""}, {"order", len(x.Order) > 0}, {"limit", x.Limit != 0}, {"show", len(x.Show) > 0}, {"change", len(x.Changes) > 0}} {
			if part.there {
				has += " " + part.name
			}
		}
		parts[x.Verb+has]++
	}
	if !slices.Equal(slices.Sorted(maps.Keys(seen)), slices.Sorted(slices.Values(sample.Verbs()))) || len(all) < 1000 {
		t.Errorf("verbs %v, %d statements", seen, len(all))
	}
	// make, drop; index, unindex; insert, replace, get; count, delete, update with a condition and without; find with each of four parts and without.
	if len(parts) != 2+2+3+6+16 {
		t.Errorf("parts: %v", parts)
	}
}

// The values are as good as their names say.
func TestGoodAndBad(t *testing.T) {
	for _, v := range append(sample.Nested(), sample.Nulls(32), sample.Fields(32), sample.DeepLists(8), sample.DeepDocs(8), sample.Text(sample.Letters(2045))) {
		if e := value.Good(v); e != api.OK {
			t.Errorf("%s: %d", sample.Short(v), int(e))
		}
	}
	for _, f := range append(sample.Bad(), sample.Fault{V: sample.Fields(100000), E: api.ErrLimit}) {
		if e := value.Good(f.V); e != f.E {
			t.Errorf("%s: %d, want %d", sample.Short(f.V), int(e), int(f.E))
		}
	}
	m := sample.Maker{Chance: rand.New(rand.NewSource(1)), Texts: []string{"x"}, Names: []string{"a", "b"}}
	seen := map[int]int{}
	for range 1000 {
		v := m.Value(3)
		seen[v.Kind]++
		if value.Good(v) != api.OK || value.Depth(v) > 3 {
			t.Errorf("%s", sample.Short(v))
		}
	}
	if len(seen) != 6 {
		t.Errorf("kinds: %v", seen)
	}
}

// Numbers tells the numbers it is handed with those beside them, and changes no list.
func TestNumbers(t *testing.T) {
	these := []int{7, 20, 30}
	l := sample.Numbers(these[:1]...)
	for _, n := range []int{6, 7, 8, -1, 0, 1, math.MinInt, math.MaxInt, math.MaxInt - 1, math.MinInt + 1, 1 << 31, 1<<32 - 1, -1 << 31} {
		if !slices.Contains(l, n) {
			t.Errorf("%d is missing", n)
		}
	}
	if slices.Contains(l, 20) || !slices.Equal(these, []int{7, 20, 30}) {
		t.Errorf("the numbers %d, of %d", l, these)
	}
}

// AnyText tells texts of all lengths below the one it is handed, of likely bytes and others.
func TestAnyText(t *testing.T) {
	r := rand.New(rand.NewSource(2))
	lengths, others, all := map[int]int{}, 0, 0
	for range 1000 {
		s := sample.AnyText(r, "ab", 10, 5)
		lengths[len(s)]++
		all += len(s)
		others += len(s) - strings.Count(s, "a") - strings.Count(s, "b")
	}
	if len(lengths) != 10 || lengths[10] != 0 || others < all/10 || others > all/3 {
		t.Errorf("lengths %v, %d of %d bytes", lengths, others, all)
	}
}

// The paths and conditions that are told to be bad are refused, within others too.
func TestBadPathsAndConds(t *testing.T) {
	for _, p := range sample.BadPaths() {
		if _, e := path.Steps(p); e == api.OK {
			t.Errorf("%q is a path", p)
		}
	}
	for _, c := range sample.BadConds() {
		for _, x := range sample.Around(c) {
			if _, e := eval.Holds(x, sample.Null()); e != api.ErrForm {
				t.Errorf("%s: %d", sample.Cut(sample.ShowCond(x)), int(e))
			}
		}
	}
	for _, x := range sample.Around(sample.Exists("z")) {
		if _, e := eval.Holds(x, sample.Null()); e != api.OK {
			t.Errorf("%s: %d", sample.ShowCond(x), int(e))
		}
	}
}

// Documents by chance have ids; paths lead from them as path says; conditions that are aimed at them are let pass, and hold of some and not of others.
func TestDocumentsAndAim(t *testing.T) {
	r := rand.New(rand.NewSource(4))
	m := sample.Few(r)
	led, held, all := 0, 0, map[string]int{}
	for range 3000 {
		v := sample.Document(r)
		if _, e := check.Id(v); e != api.OK {
			t.Errorf("%s: %d", sample.Short(v), int(e))
		}
		all[sample.Show(v)]++
		p := m.Path()
		x, there := sample.Lead(v, p)
		if y, ok := path.Get(v, p); ok != there || sample.Show(x) != sample.Show(y) {
			t.Errorf("%s of %s: %s, %v", p, sample.Short(v), sample.Short(x), there)
		}
		if y := sample.Near(r, x); there && (y.Kind != x.Kind || value.Good(y) != api.OK) {
			t.Errorf("near %s: %s", sample.Short(x), sample.Short(y))
		}
		c := m.Cond(3)
		was := sample.ShowCond(c)
		holds, e := eval.Holds(sample.Aimed(r, c, v), v)
		if e != api.OK || sample.ShowCond(c) != was {
			t.Errorf("%s: %d, now %s", was, int(e), sample.ShowCond(c))
		}
		if there {
			led++
		}
		if holds {
			held++
		}
	}
	if led < 500 || held < 500 || held > 2500 || len(all) < 500 {
		t.Errorf("%d paths led somewhere, %d conditions held, %d documents", led, held, len(all))
	}
}
