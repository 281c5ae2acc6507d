package plan_test

import (
	"fmt"
	"math/rand"
	"slices"
	"strings"
	"testing"

	"tidemark/api"
	"tidemark/eval"
	"tidemark/path"
	"tidemark/plan"
	"tidemark/sample"
)

// holds tells whether c, which must be a condition, holds of v.
func holds(t *testing.T, c api.Cond, v api.Val) bool {
	t.Helper()
	is, e := eval.Holds(c, v)
	if e != api.OK {
		t.Fatalf("%s: %d", sample.ShowCond(c), int(e))
	}
	return is
}

// found are those of l, to which p leads one that looks, of which c holds.
func found(t *testing.T, c api.Cond, p api.Plan, l []api.Val) []api.Val {
	t.Helper()
	var told []api.Val
	for _, v := range l {
		x, there := path.Get(v, p.Index)
		if there && plan.Has(p, keyOfVal(x)) && holds(t, c, v) {
			told = append(told, v)
		}
	}
	return told
}

// texts are what values are shown as.
func texts(l []api.Val) string {
	var all []string
	for _, v := range l {
		all = append(all, sample.Show(v))
	}
	return strings.Join(all, "\n")
}

// P18.3: of a document of which c holds the plan's Index leads to a value, whose key lies in its range; and so for each path that has a range.
func TestKeyLiesInRange(t *testing.T) {
	r := rand.New(rand.NewSource(4))
	held := map[string]int{}
	for range 60000 {
		v := sample.Document(r)
		c, l := randomCond(r, v), randomIndexes(r)
		if !holds(t, c, v) {
			continue
		}
		p, e := plan.Make(c, l)
		x, there := path.Get(v, p.Index)
		if e != api.OK || !there || !plan.Has(p, keyOfVal(x)) {
			t.Fatalf("%s holds of %s, and the plan by %q is %v, %d", sample.ShowCond(c), sample.Show(v), l, p, int(e))
		}
		held[fmt.Sprint(p.Index == "id", len(p.Low) > 0)]++
		for _, at := range paths {
			low, high, tests, e := plan.Range(c, at)
			x, there := path.Get(v, at)
			if e != api.OK || tests > 0 && (!there || !plan.Has(api.Plan{Low: low, High: high}, keyOfVal(x))) {
				t.Fatalf("%s holds of %s, and at %s the range is %v to %v, %d", sample.ShowCond(c), sample.Show(v), at, low, high, int(e))
			}
		}
	}
	counted(t, held, 500, "true true", "true false", "false true")
}

// P18.3: looking there and asking c finds what asking all finds.
func TestLookingFindsAll(t *testing.T) {
	r := rand.New(rand.NewSource(5))
	seen, spared := map[string]int{}, 0
	for range 4000 {
		var docs []api.Val
		for range r.Intn(30) {
			docs = append(docs, sample.Document(r))
		}
		v := sample.Document(r)
		docs = append(docs, v)
		c, l := randomCond(r, v), randomIndexes(r)
		p, e := plan.Make(c, l)
		if e != api.OK {
			t.Fatalf("%s: %d", sample.ShowCond(c), int(e))
		}
		all := slices.DeleteFunc(slices.Clone(docs), func(v api.Val) bool { return !holds(t, c, v) })
		if got := found(t, c, p, docs); texts(got) != texts(all) {
			t.Fatalf("%s by %q: %v finds %d of %d", sample.ShowCond(c), l, p, len(got), len(all))
		}
		seen[fmt.Sprint(p.Index == "id", len(p.Low) > 0, len(all) > 0)]++
		spared += len(docs) - len(found(t, api.Cond{}, p, docs))
	}
	counted(t, seen, 50, "true true true", "true false true", "false true true", "true false false", "false true false")
	if spared < 10000 {
		t.Errorf("%d documents need not be asked", spared)
	}
}

// P18.3: of a test by itself the range has just the keys of the values that pass it.
func TestJustThoseThatPass(t *testing.T) {
	for _, s := range every {
		for _, op := range sample.Signs() {
			c := test("x", op, val(s))
			low, high, tests, _ := plan.Range(c, "x")
			for _, y := range every {
				v := sample.Doc(sample.Field("x", val(y)))
				if tests > 0 && plan.Has(api.Plan{Low: low, High: high}, keyOf(y)) != holds(t, c, v) {
					t.Errorf("%s by %s %s: from %v to %v", y, op, s, low, high)
				}
			}
			if (tests == 0) != (op == "!=") {
				t.Errorf("%s %s: %d tests", op, s, tests)
			}
		}
	}
}

// P18.3: `id` without bounds has any document.
func TestNoBounds(t *testing.T) {
	p, e := plan.Make(api.Cond{}, []string{"x", "id"})
	if e != api.OK {
		t.Fatal(int(e))
	}
	for _, s := range every {
		if !plan.Has(p, keyOf(s)) {
			t.Errorf("%s does not lie in %v", s, p)
		}
	}
}
