package plan_test

import (
	"fmt"
	"math/rand"
	"slices"
	"strconv"
	"strings"
	"testing"
	"unsafe"

	"tidemark/api"
	"tidemark/plan"
	"tidemark/sample"
)

// asked is one of each call's arguments.
type asked struct {
	cond    api.Cond
	indexes []string
	path    string
	plan    api.Plan
	key     []byte
}

// withRoom is a in new memory, with spare room in each list.
func (a asked) withRoom() asked {
	x := sample.StmtWithRoom(api.Stmt{Where: a.cond, Show: a.indexes, Path: a.path})
	p := api.Plan{Index: strings.Clone(a.plan.Index), Low: roomy(a.plan.Low), High: roomy(a.plan.High)}
	return asked{x.Where, x.Show, x.Path, p, roomy(a.key)}
}

// roomy is b in new memory, with marks in spare room behind it.
func roomy(b []byte) []byte {
	b = append(slices.Clone(b), 9, 9, 9)
	return b[:len(b)-3]
}

// held is what of a is a part of a statement, as it is.
func (a asked) held() api.Stmt { return api.Stmt{Where: a.cond, Show: a.indexes, Path: a.path} }

// bytes are the lists of bytes in a, as they are.
func (a asked) bytes() [][]byte { return [][]byte{a.plan.Low, a.plan.High, a.key} }

// shown is all of a as a text, spare room too.
func (a asked) shown() string {
	s := sample.ShowStmtRoom(a.held()) + strconv.Quote(a.plan.Index)
	for _, b := range a.bytes() {
		s += fmt.Sprint(b, b[:cap(b)])
	}
	return s
}

// answers are the lists of bytes that the calls answer of a, and all answers as a text.
func answers(a asked) ([][]byte, string) {
	p, e := plan.Make(a.cond, a.indexes)
	low, high, tests, f := plan.Range(a.cond, a.path)
	has := plan.Has(a.plan, a.key)
	return [][]byte{p.Low, p.High, low, high}, fmt.Sprint(toldPlan(p, e), "; ", toldRange(low, high, tests, f), "; ", has)
}

// noConds are conditions that no text tells.
var noConds = sample.BadConds()

// randomAsked are arguments by chance, good or not.
func randomAsked(r *rand.Rand) asked {
	v := sample.Document(r)
	a := asked{cond: randomCond(r, v), indexes: randomIndexes(r), path: one(r, paths...), key: keyOfVal(sample.Few(r).Value(1))}
	a.plan = makeOtherwise(a.cond, a.indexes)
	switch r.Intn(8) {
	case 0:
		a.cond = one(r, sample.Around(one(r, noConds...))...)
	case 1:
		a.path = one(r, sample.BadPaths()...)
	case 2:
		a.plan.Low, a.plan.High = a.plan.High, a.plan.Low
	case 3:
		a.cond = api.Cond{}
	}
	return a
}

// R4: what is handed in stays as it is, spare room too, and nothing hangs on that room. R5: it is told again.
func TestArgumentsStay(t *testing.T) {
	r := rand.New(rand.NewSource(6))
	for range 5000 {
		a := randomAsked(r)
		in := a.withRoom()
		was := in.shown()
		_, got := answers(in)
		if in.shown() != was {
			t.Fatalf("%s was changed to %s", cut(was), cut(in.shown()))
		}
		_, again := answers(in)
		_, without := answers(a)
		if got != again || got != without {
			t.Fatalf("%s, then %s, without room %s", got, again, without)
		}
	}
}

// R4: what is told is new memory, and no two lists of it share any, with what was handed in neither.
func TestAnswersAreNew(t *testing.T) {
	r := rand.New(rand.NewSource(7))
	for range 5000 {
		in := randomAsked(r).withRoom()
		got, s := answers(in)
		more, _ := answers(in)
		if !sample.Apart([]api.Val{{}}, slices.Concat(got, more, in.bytes())...) {
			t.Fatalf("lists share memory: %s", s)
		}
	}
}

// R4: an answer hangs no more on the lists and texts that were handed in.
func TestNothingIsKept(t *testing.T) {
	var kept [][]byte
	mine := func(s string) string {
		kept = append(kept, []byte(s+" "))
		return unsafe.String(&kept[len(kept)-1][0], len(s))
	}
	in := cond(`some.path = "long enough" and some.path >= "long" and other < "abc"`)
	for i, c := range in.L {
		in.L[i] = test(mine(c.Path), c.Op, text(mine(c.V.S)))
	}
	indexes := []string{mine("other"), mine("some.path")}
	p, e := plan.Make(in, indexes)
	low, high, tests, f := plan.Range(in, "other")
	was := toldPlan(p, e) + toldRange(low, high, tests, f)
	for _, b := range kept {
		clear(b)
	}
	clear(in.L)
	clear(indexes)
	if now := toldPlan(p, e) + toldRange(low, high, tests, f); now != was || p.Index != "some.path" {
		t.Errorf("%s, then %s", was, now)
	}
}

// R4: nil and an empty list are one.
func TestEmptyLists(t *testing.T) {
	var full func(c api.Cond) api.Cond
	full = func(c api.Cond) api.Cond {
		l := []api.Cond{}
		for _, x := range c.L {
			l = append(l, full(x))
		}
		c.V.L, c.V.F, c.L = append([]api.Val{}, c.V.L...), append([]api.Field{}, c.V.F...), l
		return c
	}
	r := rand.New(rand.NewSource(8))
	for range 3000 {
		a := randomAsked(r)
		b := a
		b.cond, b.indexes = full(a.cond), append([]string{}, a.indexes...)
		b.plan.Low, b.plan.High, b.key = append([]byte{}, a.plan.Low...), append([]byte{}, a.plan.High...), append([]byte{}, a.key...)
		_, x := answers(a)
		_, y := answers(b)
		if x != y {
			t.Fatalf("%s, then %s", x, y)
		}
	}
	if !plan.Has(api.Plan{Low: []byte{}, High: []byte{}}, []byte{}) || plan.Has(api.Plan{Low: []byte{0}, High: []byte{}}, nil) {
		t.Error("Has of empty lists")
	}
}

// R1: what is very great is refused or taken, as the chapter says.
func TestVeryGreat(t *testing.T) {
	x := test("x", "=", number(1))
	for _, c := range []api.Cond{
		and(slices.Repeat([]api.Cond{x}, 1<<20)...), sample.Within(1<<16-1, x, not), sample.Within(1<<16-1, x, func(c api.Cond) api.Cond { return and(c, x) }), test("x", "=", sample.DeepLists(1<<16)), test("x", "<", sample.Nulls(1<<16)), test(strings.Repeat("x.", 1<<22)+"x", "=", null), test("x", "=", text(letters(1<<22))), {Op: letters(1 << 22), Path: "x", V: null},
	} {
		refuses(t, c)
	}
	many := and(slices.Repeat([]api.Cond{x}, 800)...)
	low, high := keyOf("1"), keyOf("2")
	var l []string
	for i := range 1 << 20 {
		l = append(l, fmt.Sprint("y", i))
	}
	is(t, "very many indexes", toldPlan(plan.Make(many, l)), toldPlan(api.Plan{Index: "id"}, api.OK))
	is(t, "very many indexes", toldPlan(plan.Make(many, append(l, "x"))), toldPlan(api.Plan{Index: "x", Low: low, High: high}, api.OK))
	is(t, "a very long index", toldPlan(plan.Make(many, []string{letters(1 << 24), "x"})), toldPlan(api.Plan{Index: "x", Low: low, High: high}, api.OK))
	is(t, "a very long path", toldRange(plan.Range(many, letters(1<<24))), toldRange(nil, nil, 0, api.OK))
	long := []byte(letters(1 << 24))
	if p := (api.Plan{Low: long, High: append(slices.Clone(long), 0)}); !plan.Has(p, long) || plan.Has(p, long[1:]) || plan.Has(p, p.High) {
		t.Error("Has of very long keys")
	}
}

// R1, R2, R5: whatever is handed in: each call ends, tells nothing beside an error, and tells it again, whatever was asked between.
func TestAnything(t *testing.T) {
	r := rand.New(rand.NewSource(9))
	seen := map[string]int{}
	between := asked{cond: cond("x = 1 and y > 2"), indexes: []string{"y", "x"}, path: "x"}
	for range 10000 {
		a := randomAsked(r)
		_, x := answers(a)
		answers(between)
		_, y := answers(a)
		if x != y || strings.Contains(x, "beside") {
			t.Fatalf("%s, then %s, of %s", x, y, short(list(a.cond.V)))
		}
		for _, part := range strings.Split(x, "; ") {
			seen[part]++
		}
	}
	counted(t, seen, 200, fault(api.ErrForm), "true", "false", toldPlan(api.Plan{Index: "id"}, api.OK), toldRange(nil, nil, 0, api.OK))
}
