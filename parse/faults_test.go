package parse_test

import (
	"strings"
	"testing"

	"tidemark/api"
	"tidemark/parse"
)

// P15.1: Lex's faults, at their places, ahead of all others.
func TestLexFaults(t *testing.T) {
	for s, e := range map[string]api.Errno{"?": api.ErrSyntax, "-": api.ErrSyntax, "!": api.ErrSyntax, "\xff": api.ErrSyntax, "\u00e4": api.ErrSyntax, `"x`: api.ErrSyntax, `"\q"`: api.ErrSyntax, "\"\xff\"": api.ErrText, "01": api.ErrNumber, "-0": api.ErrNumber, "9223372036854775808": api.ErrNumber} {
		for _, ahead := range []string{"", "make a ", "foo ", "make ", "insert a [", "insert a {\"b\":1,\"b\":", "index a 100 ", "make " + letters(25) + " ", "find a where " + strings.Repeat("(", 30), "x = "} {
			parsesNone(t, ahead+s, e, len(ahead))
			condsNone(t, ahead+s, e, len(ahead))
		}
	}
	parsesNone(t, "make a1 1b", api.ErrSyntax, 9)
	parsesNone(t, "a ?", api.ErrSyntax, 2)
}

// P15.1: a text of more than MaxText bytes is too big; one of so many is read.
func TestBig(t *testing.T) {
	for _, s := range []string{"make a", "foo", "find a where x = 1 or y exists"} {
		gap := strings.Repeat(" ", 8192-len(s))
		if s == "foo" {
			parsesNone(t, s+gap, api.ErrSyntax, 0)
		} else {
			x, _, _ := handRead(s, "WHOLE")
			parses(t, s+gap, x.stmt())
			parses(t, gap+s, x.stmt())
		}
		parsesNone(t, s+gap+" ", api.ErrBig, 0)
		parsesNone(t, " "+gap+s, api.ErrBig, 0)
	}
	for n, want := range map[int]api.Errno{8192: api.ErrSyntax, 8193: api.ErrBig} {
		place := map[api.Errno]int{api.ErrSyntax: n}[want]
		if c, at, e := parse.Cond(strings.Repeat(" ", n)); e != want || at != place || showCond(c) != showCond(api.Cond{}) {
			t.Errorf("Cond of %d blanks: %d, %d", n, at, int(e))
		}
	}
}

// P15.1: what is no statement at all, or begins with no verb; and something behind a whole one.
func TestNoStatement(t *testing.T) {
	for s, at := range map[string]int{
		"": 0, "  ": 2, "foo": 0, "foo a": 0, " foo": 1, "a": 0, "1": 0, `"make" a`: 0, "(make a)": 0, "where": 0, "set a = 1": 0, "null": 0, "x = 1": 0, "not": 0, "makes a": 0, "mak a": 0, "select a": 0,
		"make": 4, "make ": 5, "find": 4, "update": 6, "make 1": 5, `make "a"`: 5, "make .": 5, "make [": 5, "insert {}": 7, "insert 5 5": 7,
		"make a b": 7, "make a ,": 7, "make a;": 6, "make a.b": 6, "make a make b": 7, "find a b": 7, "find a 1": 7, "find a )": 7, "get a 1 2": 8, "get a 1,2": 7, `insert a {} {}`: 12, "index a b c": 10, "find a where x = 1 y": 19, "find a where x = 1)": 18, "find a limit 3 4": 15, "find a limit 1 order by x": 15, "find a limit 1 where x exists": 15, "update a set b = 1 c": 19, "find a show x limit 3": 14,
	} {
		parsesNone(t, s, api.ErrSyntax, at)
	}
}

// P15.1: a NAME of more than MaxName bytes, at its place, ahead of what stands behind it.
func TestLongNames(t *testing.T) {
	for _, verb := range words[:11] {
		for _, n := range []int{25, 26, 100, 5000} {
			for _, behind := range []string{"", " b", " ]", " where", " 5", " {\"b\":1,\"b\":1}", " 100"} {
				parsesNone(t, verb+" "+letters(n)+behind, api.ErrLimit, len(verb)+1)
				parsesNone(t, verb+"\n  _"+letters(n-1)+behind, api.ErrLimit, len(verb)+3)
			}
		}
	}
	parses(t, "make "+letters(24), api.Stmt{Verb: "make", Coll: letters(24)})
	parses(t, "count _"+strings.Repeat("9", 23), api.Stmt{Verb: "count", Coll: "_" + strings.Repeat("9", 23)})
	parsesNone(t, "foo "+letters(25), api.ErrSyntax, 0)
}

// P15.1: names of fields that stand in their Doc already, and those that stand in another one.
func TestNamesTwice(t *testing.T) {
	for s, at := range map[string]int{
		`{"b":1,"b":2}`: 7, `{"b":1,"b":1}`: 7, `{"a":1,"b":2,"a":3}`: 13, `{"a":1,"b":2,"b":3,"a":4}`: 13, `{"":1,"":2}`: 6, `{"b":1,"\u0062":2}`: 7, `{"b":{},"c":{"d":1,"d":2}}`: 19, `[1,{"b":1,"b":2}]`: 10, `{"b":{"b":1},"b":2}`: 13, `{"b":1,"b":`: 7, `{"b":1,"b":}`: 7, `{"b":1,"b":2,]`: 7, `{"b":1 , "b" :c`: 9, `{"b":[[[[[[[[[1]]]]]]]]],"b":2}`: 25,
	} {
		parsesNone(t, "insert a "+s, api.ErrDup, 9+at)
		parsesNone(t, "update a set c = "+s, api.ErrDup, 17+at)
		condsNone(t, "x in "+s, api.ErrDup, 5+at)
	}
	// What stands before no `:` is no name.
	for s, at := range map[string]int{`{"b":1,"b"}`: 10, `{"b":1,"b"`: 10, `{"b":1,"b",`: 10, `{"b":1,"b" 1}`: 11, `{"b":"c","c"]`: 12} {
		parsesNone(t, "insert a "+s, api.ErrSyntax, 9+at)
	}
	d, e := doc(field("b", number(1))), doc(field("b", number(1)), field("c", text("b")))
	parses(t, `get a [{"b":1},{"b":1}]`, api.Stmt{Verb: "get", Coll: "a", V: list(d, d)})
	parses(t, `get a {"b":{"b":1}}`, api.Stmt{Verb: "get", Coll: "a", V: doc(field("b", d))})
	parses(t, `get a {"c":{"b":1},"b":{"b":1}}`, api.Stmt{Verb: "get", Coll: "a", V: doc(field("b", d), field("c", d))})
	parses(t, `get a {"c":"b","b":1}`, api.Stmt{Verb: "get", Coll: "a", V: e})
	parses(t, `get a {"B":1,"b":1}`, api.Stmt{Verb: "get", Coll: "a", V: doc(field("B", number(1)), field("b", number(1)))})
	parses(t, `update a set x = {"b":1}, push x {"b":1}`, api.Stmt{Verb: "update", Coll: "a", Changes: []api.Change{change("set", "x", d), change("push", "x", d)}})
}

// P15.1: paths that are none are told at their first token, behind them.
func TestNoPaths(t *testing.T) {
	for _, p := range []string{"-1", "100", "a.100", "a.-1", "-5.a", letters(25), "a." + letters(25), "a.b.c.d.e.f.g.h.i", "0.0.0.0.0.0.0.0.0", "9223372036854775807", "a . b . 123", strings.Repeat("a.", 1000) + "a"} {
		for _, behind := range []string{"", " x", " 1", " ]", " = nul", " . ", " , b"} {
			if behind == " . " {
				// The path goes on, to an end that may not be.
				parsesNone(t, "index a "+p+behind, api.ErrSyntax, 8+len(p)+len(behind))
				continue
			}
			parsesNone(t, "index a "+p+behind, api.ErrSyntax, 8)
			parsesNone(t, "unindex a b "+p+behind, api.ErrSyntax, 12)
			parsesNone(t, "find a order by "+p+behind, api.ErrSyntax, 16)
			parsesNone(t, "find a order by b desc, "+p+behind, api.ErrSyntax, 24)
			parsesNone(t, "find a show "+p+behind, api.ErrSyntax, 12)
			parsesNone(t, "find a show b, c,"+p+behind, api.ErrSyntax, 17)
			parsesNone(t, "update a set "+p+behind, api.ErrSyntax, 13)
			parsesNone(t, "update a unset "+p+behind, api.ErrSyntax, 15)
			parsesNone(t, "update a unset b, push "+p+behind, api.ErrSyntax, 23)
			parsesNone(t, "update a add "+p+behind, api.ErrSyntax, 13)
			condsNone(t, p+behind, api.ErrSyntax, 0)
			condsNone(t, "x exists and (not "+p+behind, api.ErrSyntax, 18)
		}
		// Faults within it stand further to the left.
		for _, bad := range []string{". x", "( x", `"x"`, ", x", "]", ""} {
			parsesNone(t, "index a "+p+" . "+bad, api.ErrSyntax, 8+len(p)+3)
		}
	}
	for s, at := range map[string]int{"b..c": 2, "b.": 2, ".b": 0, ".": 0, "b.\"c\"": 2, "b.=": 2, "b.(": 2, "[b]": 0, "b.c.": 4} {
		parsesNone(t, "index a "+s, api.ErrSyntax, 8+at)
		condsNone(t, s, api.ErrSyntax, at)
	}
}

// P15.1: values that are not good are told at their first token, behind them.
func TestBadValues(t *testing.T) {
	deep := func(n int) string { return strings.Repeat("[", n) + strings.Repeat("]", n) }
	row := func(n int) string { return strings.TrimSuffix(strings.Repeat("1,", n), ",") }
	names := func(n int) string {
		var l []string
		for i := range n {
			l = append(l, `"`+letters(1+i%20)+string(rune('b'+i/20))+`":1`)
		}
		return "{" + strings.Join(l, ",") + "}"
	}
	long := func(n int) string { return `"` + letters(n) + `"` }
	bad := map[string]api.Errno{
		deep(9): api.ErrDeep, deep(500): api.ErrDeep, strings.Repeat(`{"a":`, 8) + "{}" + strings.Repeat("}", 8): api.ErrDeep, "[1," + deep(8) + "]": api.ErrDeep,
		"[" + row(33) + "]": api.ErrLimit, "[" + row(1000) + "]": api.ErrLimit, names(33): api.ErrLimit, names(300): api.ErrLimit, `[[` + row(33) + `]]`: api.ErrLimit, `{"":1}`: api.ErrLimit, `{"a":{"":1}}`: api.ErrLimit, `{` + long(25) + `:1}`: api.ErrLimit, `[{` + long(25) + `:null}]`: api.ErrLimit,
		long(2046): api.ErrBig, "[" + long(2044) + "]": api.ErrBig, "[" + long(1022) + "," + long(1022) + "]": api.ErrBig,
		// Of some the first that Good tells.
		"[" + long(3000) + "," + deep(8) + "]": api.ErrDeep, "[" + deep(8) + ",{\"\":1}]": api.ErrLimit, "[" + long(3000) + ",[" + row(33) + "]]": api.ErrLimit,
	}
	for s, e := range bad {
		for _, behind := range []string{"", " x", " 1", " ]", ", set y = " + deep(9), " or x = " + deep(9)} {
			parsesNone(t, "insert a "+s+behind, e, 9)
			parsesNone(t, "replace a  "+s+behind, e, 11)
			parsesNone(t, "get a "+s+behind, e, 6)
			parsesNone(t, "update a set b = "+s+behind, e, 17)
			parsesNone(t, "update a unset b, push b "+s+behind, e, 25)
			condsNone(t, "x = "+s+behind, e, 4)
			condsNone(t, "x exists or (y in "+s+behind, e, 18)
		}
	}
	// Faults within it stand further to the left.
	for s, at := range map[string]int{
		"[" + deep(9) + ",]": 20, strings.Repeat("[", 30): 30, strings.Repeat("[", 8000): 8000, "[" + row(33) + ",": 67, "[" + row(40): 80, `{"":1,`: 6, `{"":1,a`: 6, `{"":1 "a"`: 6, "[" + long(3000) + " 1]": 3004,
	} {
		parsesNone(t, "insert a "+s, api.ErrSyntax, 9+at)
	}
	parsesNone(t, `insert a [{"":1},{"b":1,"b":2}]`, api.ErrDup, 24)
	parsesNone(t, `insert a [`+deep(9)+`,{"b":1,"b":2}]`, api.ErrDup, 36)
	// Just good.
	for _, s := range []string{deep(8), "[" + row(32) + "]", names(32), `{` + long(24) + `:1}`, long(2045), "[" + long(2043) + "]"} {
		n, _, _ := handRead("get a "+s, "WHOLE")
		parses(t, "get a "+s, n.stmt())
	}
}

// P15.1: what may not stand in a value.
func TestWrongValues(t *testing.T) {
	for s, at := range map[string]int{
		"": 0, "nul": 0, "Null": 0, "nulls": 0, "a": 0, "(1)": 0, "=": 0, "]": 0, "}": 0, ",": 0, ".5": 0, "1.5": 1, "1 2": 2,
		"[": 1, "[1": 2, "[1,": 3, "[1,]": 3, "[,1]": 1, "[1 2]": 3, "[1,,2]": 3, "[a]": 1, "[1}": 2, "[}": 1, "[(": 1, "[1]]": 3, "[:]": 1, "[[1]": 4, "[1.5]": 2,
		"{": 1, `{"a"`: 4, `{"a":`: 5, `{"a":1`: 6, `{"a":1,`: 7, `{"a":1,}`: 7, `{a:1}`: 1, `{1:1}`: 1, `{"a" 1}`: 5, `{"a",1}`: 4, `{"a":}`: 5, `{"a":1 "b":2}`: 7, `{"a":1]`: 6, `{]`: 1, `{,}`: 1, `{"a"=1}`: 4, `{"a"::1}`: 5, `{"a":b}`: 5, `{null:1}`: 1, `{"a":1}}`: 7, `{{}}`: 1, `{[]:1}`: 1, `{"a"}`: 4,
	} {
		parsesNone(t, "insert a "+s, api.ErrSyntax, 9+at)
		condsNone(t, "x.y <= "+s, api.ErrSyntax, 7+at)
	}
}
