package plan_test

import (
	"bytes"
	"fmt"
	"math/rand"
	"slices"
	"strconv"
	"testing"

	"tidemark/api"
	"tidemark/json"
	"tidemark/key"
	"tidemark/parse"
	"tidemark/plan"
	"tidemark/sample"
)

// What the tests are made of, by short names.
var (
	null, number, text, list   = sample.Null(), sample.Int, sample.Text, sample.List
	exists, test, or, and, not = sample.Exists, sample.Test, sample.Or, sample.And, sample.Not
	letters, cut, short        = sample.Letters, sample.Cut, sample.Short
)

// val is the value of a text.
func val(s string) api.Val {
	v, _, e := json.Parse(s)
	if e != api.OK {
		panic(s)
	}
	return v
}

// vals are the values of the texts in l, a List.
func vals(l string) []api.Val { return val("[" + l + "]").L }

// cond is the condition of a text; none, if it is empty.
func cond(s string) api.Cond {
	if s == "" {
		return api.Cond{}
	}
	c, _, e := parse.Cond(s)
	if e != api.OK {
		panic(s)
	}
	return c
}

// keyOf is the key of the value of a text.
func keyOf(s string) []byte { return keyOfVal(val(s)) }

func keyOfVal(v api.Val) []byte {
	k, e := key.Of(v)
	if e != api.OK {
		panic(sample.Show(v))
	}
	return k
}

// above is the least text of bytes above all that begin with k, by another hand.
func above(k []byte) []byte {
	k = slices.Clone(k)
	for k[len(k)-1] == 255 {
		k = k[:len(k)-1]
	}
	k[len(k)-1]++
	return k
}

// toldRange is what Range answers as a text; nothing may stand beside an error.
func toldRange(low, high []byte, tests int, e api.Errno) string {
	if e != api.OK {
		return fault(e) + beside(len(low) > 0 || len(high) > 0 || tests != 0)
	}
	return fmt.Sprint(low, " ", high, " of ", tests)
}

// toldPlan is what Make answers.
func toldPlan(p api.Plan, e api.Errno) string {
	if e != api.OK {
		return fault(e) + beside(p.Index != "" || len(p.Low) > 0 || len(p.High) > 0)
	}
	return fmt.Sprintf("%q %v %v", p.Index, p.Low, p.High)
}

func fault(e api.Errno) string { return "error " + strconv.Itoa(int(e)) }

func beside(more bool) string {
	if more {
		return " and something beside it"
	}
	return ""
}

// is sees to it that a call's answer is the one that is wanted.
func is(t *testing.T, call, got, want string) {
	t.Helper()
	if got != want {
		t.Errorf("%s: %s, want %s", cut(call), cut(got), cut(want))
	}
}

// ranges sees to it that of the condition of a text p has that range, of so many tests.
func ranges(t *testing.T, s, p string, low, high []byte, tests int) {
	t.Helper()
	is(t, fmt.Sprintf("Range(%s, %q)", s, p), toldRange(plan.Range(cond(s), p)), toldRange(low, high, tests, api.OK))
}

// plans sees to it that of the condition of a text, with those indexes, that path is chosen, and its range.
func plans(t *testing.T, s string, indexes []string, index string, low, high []byte) {
	t.Helper()
	is(t, fmt.Sprintf("Make(%s, %q)", s, indexes), toldPlan(plan.Make(cond(s), indexes)), toldPlan(api.Plan{Index: index, Low: low, High: high}, api.OK))
}

// boundsOf are the bounds of the range of the test c by another hand, and whether it has one.
func boundsOf(c api.Cond) (low, high []byte, ok bool) {
	first, next := []byte{byte(c.V.Kind) * 10}, []byte{byte(c.V.Kind)*10 + 1}
	switch c.Op {
	case "=":
		return keyOfVal(c.V), above(keyOfVal(c.V)), true
	case "<":
		return first, keyOfVal(c.V), true
	case "<=":
		return first, above(keyOfVal(c.V)), true
	case ">":
		return above(keyOfVal(c.V)), next, true
	case ">=":
		return keyOfVal(c.V), next, true
	}
	return nil, nil, false
}

// rangeOtherwise is what Range tells of a condition by another hand: all bounds of p are gathered, level by level, and sorted.
func rangeOtherwise(c api.Cond, p string) (low, high []byte, tests int, isClose bool) {
	var lows, highs [][]byte
	for level := []api.Cond{c}; len(level) > 0; {
		var next []api.Cond
		for _, x := range level {
			if x.Op == "and" {
				next = append(next, x.L...)
			}
			if a, b, ok := boundsOf(x); ok && x.Path == p {
				lows, highs = append(lows, a), append(highs, b)
				isClose = isClose || x.Op == "="
			}
		}
		level = next
	}
	if len(lows) == 0 {
		return nil, nil, 0, false
	}
	slices.SortFunc(lows, bytes.Compare)
	slices.SortFunc(highs, bytes.Compare)
	return lows[len(lows)-1], highs[0], len(lows), isClose
}

// makeOtherwise is what Make tells of a condition by another hand: all paths are asked for each way to be good, the best one first.
func makeOtherwise(c api.Cond, indexes []string) api.Plan {
	for way := range 3 {
		for _, p := range slices.Concat([]string{"id"}, indexes) {
			low, high, tests, isClose := rangeOtherwise(c, p)
			if way == 0 && isClose || way == 1 && tests >= 2 || way == 2 && tests >= 1 {
				return api.Plan{Index: p, Low: low, High: high}
			}
		}
	}
	return api.Plan{Index: "id"}
}

// one is one of l.
func one[T any](r *rand.Rand, l ...T) T { return l[r.Intn(len(l))] }

// paths are those by which conditions by chance mostly go.
var paths = []string{"a", "b", "id", "z", "a.0", "a.b", "b.a"}

// randomCond is a condition by chance that check lets pass, with needed tests, most of them by what v has there, or by what is near that, so that it often holds of v.
func randomCond(r *rand.Rand, v api.Val) api.Cond {
	if r.Intn(6) == 0 {
		return sample.Aimed(r, sample.Few(r).Cond(r.Intn(4)), v)
	}
	var parts []api.Cond
	for range 1 + r.Intn(5) {
		parts = append(parts, randomTest(r, v))
	}
	if r.Intn(4) == 0 {
		parts = append(parts, sample.Aimed(r, sample.Few(r).Cond(2), v))
	}
	r.Shuffle(len(parts), func(i, k int) { parts[i], parts[k] = parts[k], parts[i] })
	for len(parts) > 1 && r.Intn(3) == 0 {
		parts = append(parts[2:], and(parts[:2]...))
	}
	if len(parts) == 1 {
		return parts[0]
	}
	return and(parts...)
}

// randomTest is a test by a sign.
func randomTest(r *rand.Rand, v api.Val) api.Cond {
	p := one(r, paths...)
	x, there := sample.Lead(v, p)
	if !there && r.Intn(4) > 0 {
		p = one(r, "a", "b", "id")
		x, there = sample.Lead(v, p)
	}
	if !there || r.Intn(8) == 0 {
		return test(p, one(r, append(sample.Signs(), "!=", "!=", "!=")...), sample.Few(r).Value(1))
	}
	if r.Intn(2) == 0 {
		x = sample.Near(r, x)
	}
	return test(p, one(r, append(sample.Signs(), "=", "<=", ">=", "<=", ">=")...), x)
}

// randomIndexes are some paths, maybe twice, maybe `id`, maybe none at all.
func randomIndexes(r *rand.Rand) []string {
	var l []string
	for range r.Intn(6) {
		l = append(l, one(r, append(paths, "0", "", "a.")...))
	}
	return l
}

// counted sees to it that each of these was told often enough that a test by chance tries them all.
func counted(t *testing.T, told map[string]int, least int, these ...string) {
	t.Helper()
	for _, s := range these {
		if told[s] < least {
			t.Errorf("%q was told %d times: %v", s, told[s], told)
		}
	}
}
