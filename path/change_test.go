package path_test

import (
	"fmt"
	"math"
	"strings"
	"testing"

	"tidemark/api"
	"tidemark/path"
	"tidemark/sample"
)

// P6.2, the chapter's examples.
func TestChangeExamples(t *testing.T) {
	sets(t, example, "d.e", "7", `{"a":[1,{"b":2}],"c":"x","d":{"e":7}}`)
	sets(t, example, "a.0", "null", `{"a":[null,{"b":2}],"c":"x"}`)
	sets(t, example, "c.q", "1", api.ErrKind)
	sets(t, example, "a.2", "1", api.ErrName)
	unsets(t, example, "a.0", `{"a":[{"b":2}],"c":"x"}`)
	unsets(t, example, "z", example)
	pushes(t, example, "a", "3", `{"a":[1,{"b":2},3],"c":"x"}`)
	pushes(t, example, "c", "1", api.ErrKind)
	adds(t, example, "a.0", 4, `{"a":[5,{"b":2}],"c":"x"}`)
}

// The calls: the errors of v are told ahead of those of p, and these ahead of those of x.
func TestOrderOfErrors(t *testing.T) {
	good := of(t, example)
	for _, f := range sample.Bad() {
		for _, p := range []string{"", "a", "0", "a.0", "z.9", "f00000"} {
			for _, x := range []api.Val{null, f.V, {Kind: 77}, text("\xff")} {
				tells(t, "Set of "+short(f.V), told(path.Set(f.V, p, x)), f.E)
				tells(t, "Push to "+short(f.V), told(path.Push(f.V, p, x)), f.E)
			}
			tells(t, "Unset of "+short(f.V), told(path.Unset(f.V, p)), f.E)
			tells(t, "Add to "+short(f.V), told(path.Add(f.V, p, 1)), f.E)
		}
		for _, p := range noSteps() {
			tells(t, "Set of "+p, told(path.Set(good, p, f.V)), api.ErrSyntax)
			tells(t, "Push to "+p, told(path.Push(good, p, f.V)), api.ErrSyntax)
		}
		// The errors of x are told ahead of those that are met on the way, and of those of the whole.
		for _, p := range []string{"a", "a.0", "z", "a.2", "c.q", "0", "a.b", "d.e.f"} {
			tells(t, "Set "+p, told(path.Set(good, p, f.V)), f.E)
			tells(t, "Push "+p, told(path.Push(good, p, f.V)), f.E)
		}
	}
	for _, p := range noSteps() {
		for _, v := range []api.Val{good, null, list(number(1))} {
			tells(t, "Set of "+p, told(path.Set(v, p, null)), api.ErrSyntax)
			tells(t, "Push to "+p, told(path.Push(v, p, null)), api.ErrSyntax)
			tells(t, "Unset of "+p, told(path.Unset(v, p)), api.ErrSyntax)
			tells(t, "Add to "+p, told(path.Add(v, p, math.MaxInt64)), api.ErrSyntax)
		}
	}
}

// P6.2 Set: what is there is another one then.
func TestSet(t *testing.T) {
	sets(t, example, "a", "7", `{"a":7,"c":"x"}`)
	sets(t, example, "a", "[]", `{"a":[],"c":"x"}`)
	sets(t, example, "c", `{"q":[1]}`, `{"a":[1,{"b":2}],"c":{"q":[1]}}`)
	sets(t, example, "a.1", "2", `{"a":[1,2],"c":"x"}`)
	sets(t, example, "a.1.b", "3", `{"a":[1,{"b":3}],"c":"x"}`)
	sets(t, example, "a.1.b", "2", example)
	sets(t, "[1,2]", "0", "3", "[3,2]")
	sets(t, "[1,2]", "1", "3", "[1,3]")
	sets(t, "[[1,2],[3,4],[5,6]]", "1.0", "[7]", "[[1,2],[[7],4],[5,6]]")
	long := "[" + strings.Repeat("1,", 31) + "2]"
	sets(t, long, "31", "3", "["+strings.Repeat("1,", 31)+"3]")
	sets(t, long, "10", "3", "["+strings.Repeat("1,", 10)+"3,"+strings.Repeat("1,", 20)+"2]")
}

// P6.2 Set: a name that a Doc does not have is a field more, at its place; Docs are made on the way.
func TestSetMore(t *testing.T) {
	sets(t, "{}", "a", "1", `{"a":1}`)
	sets(t, `{"b":1,"d":2}`, "a", "3", `{"a":3,"b":1,"d":2}`)
	sets(t, `{"b":1,"d":2}`, "c", "3", `{"b":1,"c":3,"d":2}`)
	sets(t, `{"b":1,"d":2}`, "e", "3", `{"b":1,"d":2,"e":3}`)
	sets(t, `{"b":1,"d":2}`, "bb", "3", `{"b":1,"bb":3,"d":2}`)
	sets(t, `{"b":1,"d":2}`, "B", "3", `{"B":3,"b":1,"d":2}`)
	sets(t, `{"b":1,"d":2}`, "_", "3", `{"_":3,"b":1,"d":2}`)
	sets(t, "{}", "a.b", "1", `{"a":{"b":1}}`)
	sets(t, "{}", "a.b.c", "[]", `{"a":{"b":{"c":[]}}}`)
	sets(t, example, "a.1.c.d", "3", `{"a":[1,{"b":2,"c":{"d":3}}],"c":"x"}`)
	sets(t, example, "a.1.a", "3", `{"a":[1,{"a":3,"b":2}],"c":"x"}`)
	sets(t, "{}", "a.b.c.d.e.f.g.h", "1", `{"a":{"b":{"c":{"d":{"e":{"f":{"g":{"h":1}}}}}}}}`)
	sets(t, "{}", letters(24), "1", `{"`+letters(24)+`":1}`)
	sets(t, `{"0":1}`, "a", "2", `{"0":1,"a":2}`)
}

// P6.2 Set: ErrKind at the first, a middle and the last step.
func TestSetKind(t *testing.T) {
	for _, v := range []string{"null", "true", "5", `"a"`} {
		for _, p := range []string{"a", "0", "a.b", "0.1", "a.0", "99"} {
			sets(t, v, p, "1", api.ErrKind)
		}
	}
	sets(t, "[]", "a", "1", api.ErrKind)
	sets(t, "[1]", "a.0", "1", api.ErrKind)
	sets(t, "{}", "0", "1", api.ErrKind)
	sets(t, `{"0":1}`, "0", "1", api.ErrKind)
	sets(t, `{"0":{}}`, "0.a", "1", api.ErrKind)
	for _, p := range []string{"0", "9.a", "c.q", "c.0", "a.b", "a.b.c", "a.0.0", "a.0.a", "a.0.a.b", "a.1.0", "a.1.0.b", "a.1.b.c", "a.1.b.0", "a.1.b.c.d", "c.a.b.d", "b.0", "b.c.0", "b.c.0.d", "a.1.c.0", "b.0.c"} {
		sets(t, example, p, "1", api.ErrKind)
	}
}

// P6.2 Set: ErrName at the first, a middle and the last step.
func TestSetName(t *testing.T) {
	sets(t, "[]", "0", "1", api.ErrName)
	sets(t, "[]", "0.0", "1", api.ErrName)
	sets(t, "[1,2]", "2", "1", api.ErrName)
	sets(t, "[1,2]", "3", "1", api.ErrName)
	sets(t, "[1,2]", "10", "1", api.ErrName)
	sets(t, "[1,2]", "99", "1", api.ErrName)
	sets(t, "[1,2]", "2.a", "1", api.ErrName)
	for _, p := range []string{"a.2", "a.3", "a.20", "a.2.0", "a.2.a.b", "a.99.b"} {
		sets(t, example, p, "1", api.ErrName)
	}
	sets(t, `[[1],{"a":[[],5]}]`, "1.a.0.0", "1", api.ErrName)
	sets(t, `[[1],{"a":[[],5]}]`, "1.a.2.0", "1", api.ErrName)
	sets(t, "["+strings.Repeat("1,", 31)+"1]", "32", "1", api.ErrName)
}

// P6.2 Set: the whole is too great, by one; and just not.
func TestSetLimits(t *testing.T) {
	names := func(n int) string { return told(sample.Fields(n), api.OK) }
	sets(t, names(31), "a", "1", `{"a":1,`+names(31)[1:])
	sets(t, names(32), "a", "1", api.ErrLimit)
	sets(t, names(32), "a.b", "1", api.ErrLimit)
	sets(t, names(32), "f00031", "1", strings.Replace(names(32), `"f00031":null`, `"f00031":1`, 1))
	sets(t, `[{"x":`+names(32)+`}]`, "0.x.a", "1", api.ErrLimit)
	deep := func(n int) string { return strings.Repeat("[", n) + strings.Repeat("]", n) }
	sets(t, "{}", "a", deep(7), `{"a":`+deep(7)+"}")
	sets(t, "{}", "a", deep(8), api.ErrDeep)
	sets(t, `{"a":[1]}`, "a.0", deep(6), `{"a":[`+deep(6)+"]}")
	sets(t, `{"a":[1]}`, "a.0", deep(7), api.ErrDeep)
	sets(t, "{}", "a.b.c.d.e.f.g", "[]", `{"a":{"b":{"c":{"d":{"e":{"f":{"g":[]}}}}}}}`)
	sets(t, "{}", "a.b.c.d.e.f.g.h", "[]", api.ErrDeep)
	sets(t, "[{}]", "0.b.c.d.e.f.g.h", "1", `[{"b":{"c":{"d":{"e":{"f":{"g":{"h":1}}}}}}}]`)
	sets(t, "[[{}]]", "0.0.c.d.e.f.g.h", "1", `[[{"c":{"d":{"e":{"f":{"g":{"h":1}}}}}}]]`)
	sets(t, "[[[{}]]]", "0.0.0.d.e.f.g.h", "{}", api.ErrDeep)
	// A List of one Text has 2 bytes and the Text's 3 and its own; a field more has 2 bytes and its value's.
	long := func(n int) string { return `"` + letters(n) + `"` }
	sets(t, "[1]", "0", long(2043), "["+long(2043)+"]")
	sets(t, "[1]", "0", long(2044), api.ErrBig)
	sets(t, `{"a":`+long(2038)+"}", "b", "null", `{"a":`+long(2038)+`,"b":null}`)
	sets(t, `{"a":`+long(2039)+"}", "b", "null", api.ErrBig)
	sets(t, `{"a":`+long(2038)+"}", "b", "1", api.ErrBig)
	// Of several faults the one that Good tells first.
	sets(t, `{"f":`+names(32)+`}`, "f.a", long(2000), api.ErrLimit)
	sets(t, "{}", "a.b.c.d.e.f.g.h", "["+long(2020)+"]", api.ErrDeep)
}

// P6.2 Unset: what stands there is taken out, and those behind it move up.
func TestUnset(t *testing.T) {
	unsets(t, example, "a", `{"c":"x"}`)
	unsets(t, example, "c", `{"a":[1,{"b":2}]}`)
	unsets(t, example, "a.1", `{"a":[1],"c":"x"}`)
	unsets(t, example, "a.1.b", `{"a":[1,{}],"c":"x"}`)
	unsets(t, "[1,2,3]", "0", "[2,3]")
	unsets(t, "[1,2,3]", "1", "[1,3]")
	unsets(t, "[1,2,3]", "2", "[1,2]")
	unsets(t, "[1]", "0", "[]")
	unsets(t, `{"a":1}`, "a", "{}")
	unsets(t, `{"a":1,"b":2,"c":3}`, "b", `{"a":1,"c":3}`)
	unsets(t, "[[1,[2,3]],[4]]", "0.1.0", "[[1,[3]],[4]]")
	unsets(t, `{"a":{"b":{"c":{"d":{"e":{"f":{"g":{"h":1}}}}}}}}`, "a.b.c.d.e.f.g.h", `{"a":{"b":{"c":{"d":{"e":{"f":{"g":{}}}}}}}}`)
	unsets(t, "["+strings.Repeat("1,", 31)+"2]", "31", "["+strings.Repeat("1,", 30)+"1]")
	unsets(t, "["+strings.Repeat("1,", 12)+"2,3]", "12", "["+strings.Repeat("1,", 12)+"3]")
}

// P6.2 Unset: of a path that leads nowhere, at each kind of step, v stays as it is.
func TestUnsetNothing(t *testing.T) {
	for _, p := range []string{"z", "z.a", "z.0", "b.c.d", "0", "0.a", "2", "a.b", "a.2", "a.5", "a.99", "a.2.b", "a.b.c", "a.0.0", "a.0.a", "a.1.c", "a.1.0", "a.1.b.c", "a.1.b.0", "c.x", "c.0", "c.x.y"} {
		unsets(t, example, p, example)
	}
	for _, v := range []string{"null", "false", "1", `"a"`, "[]", "{}", `{"0":1}`, "[[]]"} {
		for _, p := range []string{"a", "a.b", "1", "0.0", "0.a", "99"} {
			unsets(t, v, p, v)
		}
	}
	unsets(t, `{"0":1}`, "0", `{"0":1}`)
}

// P6.2 Push: behind the values of a List.
func TestPush(t *testing.T) {
	pushes(t, `{"a":[]}`, "a", "1", `{"a":[1]}`)
	pushes(t, `{"a":[]}`, "a", "[]", `{"a":[[]]}`)
	pushes(t, "[[1,2],[3]]", "0", `{"x":1}`, `[[1,2,{"x":1}],[3]]`)
	pushes(t, "[[1,2],[3]]", "1", "4", "[[1,2],[3,4]]")
	pushes(t, `[{"a":[1,[2]],"b":3}]`, "0.a.1", "null", `[{"a":[1,[2,null]],"b":3}]`)
	many := "[" + strings.Repeat("1,", 30) + "1]"
	pushes(t, "["+many+"]", "0", "1", "[["+strings.Repeat("1,", 31)+"1]]")
}

// P6.2 Push: ErrName, if the path leads nowhere; ErrKind, if not to a List.
func TestPushRefused(t *testing.T) {
	for _, p := range []string{"z", "z.a", "0", "a.2", "a.b", "a.0.0", "a.1.c", "a.1.b.c", "c.x", "c.0", "b.c"} {
		pushes(t, example, p, "1", api.ErrName)
	}
	for _, v := range []string{"null", "1", "[]", "{}"} {
		pushes(t, v, "a", "1", api.ErrName)
		pushes(t, v, "0", "1", api.ErrName)
	}
	for _, p := range []string{"c", "a.0", "a.1", "a.1.b"} {
		pushes(t, example, p, "1", api.ErrKind)
	}
	for _, v := range []string{"null", "true", "1", `"a"`, "{}", `{"a":[]}`} {
		pushes(t, `{"x":`+v+"}", "x", "1", api.ErrKind)
		pushes(t, "["+v+"]", "0", "1", api.ErrKind)
	}
}

// P6.2 Push: the whole is too great, by one; and just not.
func TestPushLimits(t *testing.T) {
	full := "[" + strings.Repeat("1,", 31) + "1]"
	pushes(t, `{"x":`+full+"}", "x", "1", api.ErrLimit)
	pushes(t, "["+full+"]", "0", "null", api.ErrLimit)
	pushes(t, full, "0", "1", api.ErrKind)
	deep := func(n int) string { return strings.Repeat("[", n) + strings.Repeat("]", n) }
	pushes(t, deep(8), "0.0.0.0.0.0.0", "1", strings.Repeat("[", 8)+"1"+strings.Repeat("]", 8))
	pushes(t, deep(8), "0.0.0.0.0.0.0", "[]", api.ErrDeep)
	pushes(t, "[[]]", "0", deep(6), "[["+deep(6)+"]]")
	pushes(t, "[[]]", "0", deep(7), api.ErrDeep)
	// Two Lists have 4 bytes, a Text 3 and its own.
	pushes(t, "[[]]", "0", `"`+letters(2041)+`"`, `[["`+letters(2041)+`"]]`)
	pushes(t, "[[]]", "0", `"`+letters(2042)+`"`, api.ErrBig)
}

// P6.2 Add: sums.
func TestAdd(t *testing.T) {
	adds(t, `{"x":5}`, "x", 0, `{"x":5}`)
	adds(t, `{"x":5}`, "x", -5, `{"x":0}`)
	adds(t, `{"x":5}`, "x", -7, `{"x":-2}`)
	adds(t, `{"w":1,"x":-5,"y":2}`, "x", 7, `{"w":1,"x":2,"y":2}`)
	adds(t, "[1,2,3]", "1", 40, "[1,42,3]")
	adds(t, example, "a.1.b", -3, `{"a":[1,{"b":-1}],"c":"x"}`)
	adds(t, example, "a.0", math.MinInt64, `{"a":[-9223372036854775807,{"b":2}],"c":"x"}`)
}

// P6.2 Add: sums at both ends, and beyond them.
func TestAddEnds(t *testing.T) {
	const most, least = math.MaxInt64, math.MinInt64
	sums := []struct {
		a, b int64
		good bool
	}{
		{most, 0, true}, {most, 1, false}, {most, 2, false}, {most, most, false}, {most, -1, true}, {most, least, true}, {most - 1, 1, true}, {most - 1, 2, false}, {1, most, false}, {0, most, true}, {-1, most, true}, {1 << 62, 1 << 62, false}, {1 << 62, 1<<62 - 1, true},
		{least, 0, true}, {least, -1, false}, {least, -2, false}, {least, least, false}, {least, 1, true}, {least, most, true}, {least + 1, -1, true}, {least + 1, -2, false}, {-1, least, false}, {0, least, true}, {1, least, true}, {-1 << 62, -1 << 62, true}, {-1 << 62, -1<<62 - 1, false}, {0, 0, true},
	}
	for _, s := range sums {
		v := fmt.Sprintf(`[{"x":%d}]`, s.a)
		if s.good {
			adds(t, v, "0.x", s.b, fmt.Sprintf(`[{"x":%d}]`, s.a+s.b))
		} else {
			adds(t, v, "0.x", s.b, api.ErrNumber)
		}
	}
}

// P6.2 Add: ErrName, if the path leads nowhere; ErrKind, if not to an Int; both ahead of the sum.
func TestAddRefused(t *testing.T) {
	for _, n := range []int64{0, 1, -1, math.MaxInt64, math.MinInt64} {
		for _, p := range []string{"z", "z.a", "0", "a.2", "a.b", "a.0.0", "a.1.c", "a.1.b.c", "c.x", "c.0"} {
			adds(t, example, p, n, api.ErrName)
		}
		for _, p := range []string{"a", "c", "a.1"} {
			adds(t, example, p, n, api.ErrKind)
		}
		for _, v := range []string{"null", "true", "false", `"1"`, "{}", "[]", "[1]", `{"x":1}`} {
			adds(t, `{"x":`+v+"}", "x", n, api.ErrKind)
			adds(t, "["+v+"]", "0", n, api.ErrKind)
		}
		adds(t, "1", "a", n, api.ErrName)
		adds(t, "1", "0", n, api.ErrName)
	}
}

// P6.2 Add: a sum with more digits may be too big for the whole, by one byte; and just not.
func TestAddBig(t *testing.T) {
	with := func(n int, x string) string { return `["` + letters(n) + `",` + x + "]" }
	adds(t, with(2041, "0"), "1", 63, with(2041, "63"))
	adds(t, with(2041, "0"), "1", 64, api.ErrBig)
	adds(t, with(2041, "0"), "1", -64, with(2041, "-64"))
	adds(t, with(2041, "0"), "1", -65, api.ErrBig)
	adds(t, with(2040, "0"), "1", 64, with(2040, "64"))
	adds(t, with(2040, "0"), "1", 8191, with(2040, "8191"))
	adds(t, with(2040, "0"), "1", 8192, api.ErrBig)
	adds(t, with(2041, "60"), "1", 4, api.ErrBig)
}
