package eval_test

import (
	"fmt"
	"math/rand"
	"slices"
	"strings"
	"testing"

	"tidemark/api"
	"tidemark/check"
	"tidemark/eval"
	"tidemark/path"
	"tidemark/sample"
)

// P17.3: `not` turns `or` of parts into `and` of `not`s, and the other way round.
func TestNotTurns(t *testing.T) {
	r := rand.New(rand.NewSource(7))
	seen := map[string]int{}
	for range 5000 {
		v := random(r)
		var parts, nots []api.Cond
		for range 2 + r.Intn(3) {
			c := randomCond(r, v)
			parts, nots = append(parts, c), append(nots, not(c))
		}
		for _, pair := range [][2]api.Cond{{not(or(parts...)), and(nots...)}, {not(and(parts...)), or(nots...)}, {or(parts...), not(and(nots...))}, {and(parts...), not(or(nots...))}} {
			a, e := eval.Holds(pair[0], v)
			b, f := eval.Holds(pair[1], v)
			if e != api.OK || f != api.OK || a != b {
				t.Fatalf("%s and %s of %s: %v, %d, %v, %d", sample.ShowCond(pair[0]), sample.ShowCond(pair[1]), short(v), a, int(e), b, int(f))
			}
			seen[fmt.Sprint(pair[0].Op, " ", a)]++
		}
	}
	counted(t, seen, 200, "not true", "not false", "or true", "or false", "and true", "and false")
}

// texts are what values are shown as, sorted.
func texts(l []api.Val) string {
	var all []string
	for _, v := range l {
		all = append(all, sample.Show(v))
	}
	slices.Sort(all)
	return strings.Join(all, "\n")
}

// P17.3: Sort tells what it is given, each once, in order.
func TestSortTellsAll(t *testing.T) {
	r := rand.New(rand.NewSource(8))
	for range 3000 {
		l, o := randoms(r, 60), randomOrders(r, 5)
		told, e := eval.Sort(l, o)
		if e != api.OK || len(told) != len(l) || texts(told) != texts(l) {
			t.Fatalf("Sort by %v: %d, %s, of %s", o, int(e), cut(texts(told)), cut(texts(l)))
		}
		for i := 1; i < len(told); i++ {
			if ahead(told[i-1], told[i], o) > 0 {
				t.Fatalf("Sort by %v: %s ahead of %s", o, short(told[i-1]), short(told[i]))
			}
		}
		again, e := eval.Sort(told, o)
		is(t, "Sort again", toldList(again, e), toldList(told, api.OK))
	}
}

// places are the paths to all that is in v, itself at that path.
func places(v api.Val, at string) []string {
	var l []string
	if at != "" {
		l = append(l, at)
	}
	for _, f := range v.F {
		if p := strings.TrimPrefix(at+"."+f.Name, "."); f.Name != "0" && f.Name != "\u00e4" {
			l = append(l, places(f.V, p)...)
		}
	}
	for i, x := range v.L {
		l = append(l, places(x, strings.TrimPrefix(fmt.Sprint(at, ".", i), "."))...)
	}
	return l
}

// movesUp tells whether c may take a value out of a List, so that those behind it move up.
func movesUp(c api.Change) bool {
	steps, _ := path.Steps(c.Path)
	return c.Do == "unset" && len(steps) > 0 && steps[len(steps)-1][0] <= '9'
}

// P17.3: Apply leaves what no change touches: all of it is there, and nothing comes to it.
func TestApplyLeaves(t *testing.T) {
	r := rand.New(rand.NewSource(9))
	looked, changed := 0, 0
	for range 30000 {
		v, l := random(r), randomChanges(r, 5)
		told, e := eval.Apply(v, l)
		if e != api.OK || slices.ContainsFunc(l, movesUp) {
			continue
		}
		if sample.Show(told) != sample.Show(v) {
			changed++
		}
		for _, p := range append(places(v, ""), places(told, "")...) {
			if slices.ContainsFunc(l, func(c api.Change) bool { return check.Touches(c.Path, p) }) {
				continue
			}
			looked++
			a, _ := path.Get(v, p)
			b, ok := path.Get(told, p)
			if !ok || sample.Show(a) != sample.Show(b) {
				t.Fatalf("%s at %s: %s, by %s", short(v), p, short(told), sample.ShowStmt(api.Stmt{Changes: l}))
			}
		}
		a, _ := check.Id(v)
		b, e := check.Id(told)
		if e != api.OK || sample.Show(a) != sample.Show(b) {
			t.Fatalf("the id of %s: %s", short(v), short(told))
		}
	}
	if looked < 20000 || changed < 3000 {
		t.Errorf("looked at %d, %d changed", looked, changed)
	}
}
