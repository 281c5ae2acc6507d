package parse_test

import (
	"fmt"
	"math"
	"math/rand"
	"slices"
	"strings"
	"testing"

	"tidemark/api"
	"tidemark/parse"
)

// example is the chapter's first statement.
var example = api.Stmt{Verb: "find", Coll: "a", Where: and(is("x", 1), not(or(test("y", "<", number(2)), exists("z")))), Limit: 3}

// The chapter's examples.
func TestExamples(t *testing.T) {
	parses(t, "find a where x = 1 and not (y < 2 or z exists) limit 3", example)
	parsesNone(t, "find", api.ErrSyntax, 4)
	parsesNone(t, "make a b", api.ErrSyntax, 7)
	parsesNone(t, `insert a {"b":1,"b":2}`, api.ErrDup, 16)
	parsesNone(t, "update a set b 1", api.ErrSyntax, 15)
	prints(t, example, "find a where x = 1 and not ( y < 2 or z exists ) limit 3")
}

// P15.1: the verbs that have a name alone, a path, or a value.
func TestShortVerbs(t *testing.T) {
	for _, verb := range []string{"make", "drop"} {
		for _, name := range []string{"a", "_", "Zz_9", letters(24)} {
			parses(t, verb+" "+name, api.Stmt{Verb: verb, Coll: name})
			parsesNone(t, verb+" "+name+" b", api.ErrSyntax, len(verb+name)+2)
			parsesNone(t, verb+" "+name+" where b exists", api.ErrSyntax, len(verb+name)+2)
		}
	}
	for _, verb := range []string{"index", "unindex"} {
		for _, p := range []string{"b", "b.c", "0", "99", "b.10.c", "a.b.c.d.e.f.g.h", letters(24) + ".0"} {
			parses(t, verb+" a "+p, api.Stmt{Verb: verb, Coll: "a", Path: p})
		}
		parsesNone(t, verb+" a", api.ErrSyntax, len(verb)+2)
		parsesNone(t, verb+" a b c", api.ErrSyntax, len(verb)+5)
		parsesNone(t, verb+` a "b"`, api.ErrSyntax, len(verb)+3)
		parsesNone(t, verb+" a b, c", api.ErrSyntax, len(verb)+4)
	}
	for _, verb := range []string{"insert", "replace", "get"} {
		parses(t, verb+" a 5", api.Stmt{Verb: verb, Coll: "a", V: number(5)})
		parses(t, verb+` a {"id":1}`, api.Stmt{Verb: verb, Coll: "a", V: doc(field("id", number(1)))})
		parsesNone(t, verb+" a", api.ErrSyntax, len(verb)+2)
		parsesNone(t, verb+" a 5 6", api.ErrSyntax, len(verb)+5)
		parsesNone(t, verb+" a b", api.ErrSyntax, len(verb)+3)
	}
}

// P15.1: every kind of value.
func TestValues(t *testing.T) {
	for s, v := range map[string]api.Val{
		"null": null, "true": boolean(1), "false": boolean(0), "0": number(0), "-7": number(-7),
		"9223372036854775807": number(math.MaxInt64), "-9223372036854775808": number(math.MinInt64),
		`""`: text(""), `"null"`: text("null"), `"a\n\u00e4"`: text("a\n\u00e4"), "[]": list(), "{}": doc(), "[ ]": list(), "{ }": doc(),
		"[1]": list(number(1)), "[1,null,[true]]": list(number(1), null, list(boolean(1))), "[{}, []]": list(doc(), list()),
		`{"a":1}`: doc(field("a", number(1))), `{"b":1,"a":2}`: doc(field("a", number(2)), field("b", number(1))),
		`{"a":{"a":{"a":[]}},"aa":null,"\u0061b":0}`: doc(field("a", doc(field("a", doc(field("a", list()))))), field("aa", null), field("ab", number(0))),
		`{"z":[1,{},null,true,false,"q"],"a":-5}`:    doc(field("a", number(-5)), field("z", list(number(1), doc(), null, boolean(1), boolean(0), text("q")))),
		`{"a b":1,"0":2,"null":3,"ä":4}`:             doc(field("0", number(2)), field("a b", number(1)), field("null", number(3)), field("ä", number(4))),
		"[[[[[[[[1]]]]]]]]":                          list(list(list(list(list(list(list(list(number(1))))))))),
	} {
		parses(t, "insert a "+s, api.Stmt{Verb: "insert", Coll: "a", V: v})
		parses(t, "update a set b="+s, api.Stmt{Verb: "update", Coll: "a", Changes: []api.Change{change("set", "b", v)}})
		parses(t, "update a push b "+s, api.Stmt{Verb: "update", Coll: "a", Changes: []api.Change{change("push", "b", v)}})
		conds(t, "x = "+s, test("x", "=", v))
		conds(t, "x in "+s, test("x", "in", v))
	}
}

// P15.1: find, with each of its parts there and not there.
func TestFind(t *testing.T) {
	c := or(is("x", 1), exists("y"))
	parts := []struct {
		s   string
		put func(x *api.Stmt)
	}{
		{" where x = 1 or y exists", func(x *api.Stmt) { x.Where = c }},
		{" order by p, q.0 desc", func(x *api.Stmt) { x.Order = []api.Order{{Path: "p"}, {Path: "q.0", Desc: true}} }},
		{" limit 7", func(x *api.Stmt) { x.Limit = 7 }},
		{" show r, s.t", func(x *api.Stmt) { x.Show = []string{"r", "s.t"} }},
	}
	for set := range 1 << len(parts) {
		s, x := "find a", api.Stmt{Verb: "find", Coll: "a"}
		for i, p := range parts {
			if set>>i&1 == 1 {
				s += p.s
				p.put(&x)
			}
		}
		parses(t, s, x)
	}
	// In another order they may not stand, nor twice.
	for i, p := range parts {
		for _, q := range parts[:i+1] {
			parsesNone(t, "find a"+p.s+q.s, api.ErrSyntax, len("find a"+p.s)+1)
		}
	}
}

// P15.1: orders, limits and shows.
func TestFindParts(t *testing.T) {
	for s, l := range map[string][]api.Order{
		"x":                {{Path: "x"}},
		"x desc":           {{Path: "x", Desc: true}},
		"desc":             {{Path: "desc"}},
		"desc desc":        {{Path: "desc", Desc: true}},
		"desc.desc desc":   {{Path: "desc.desc", Desc: true}},
		"x desc, y":        {{Path: "x", Desc: true}, {Path: "y"}},
		"x, y desc, x":     {{Path: "x"}, {Path: "y", Desc: true}, {Path: "x"}},
		"0, a.1 desc":      {{Path: "0"}, {Path: "a.1", Desc: true}},
		"limit, show.by":   {{Path: "limit"}, {Path: "show.by"}},
		"a,b,c,d,e,f desc": {{Path: "a"}, {Path: "b"}, {Path: "c"}, {Path: "d"}, {Path: "e"}, {Path: "f", Desc: true}},
	} {
		parses(t, "find a order by "+s, api.Stmt{Verb: "find", Coll: "a", Order: l})
	}
	for s, at := range map[string]int{"": 0, "x,": 2, ",x": 0, "x y": 2, "x desc desc": 7, "x desc.y": 6, "x asc": 2, "by x": 3, `"x"`: 0, "x.": 2, "x.desc.": 7, "x,,y": 2, "(x)": 0, "x = 1": 2} {
		parsesNone(t, "find a order by "+s, api.ErrSyntax, 16+at)
	}
	for s, at := range map[string]int{"order": 5, "order x": 6, "order by": 8, "by x": 0, "order desc x": 6, "order 1": 6, "limit": 5, "limit x": 6, `limit "1"`: 6, "limit 1, 2": 7, "limit 1 2": 8, "limit limit 1": 6, "show": 4, "show x,": 7, "show x y": 7, "show ,": 5, `show "x"`: 5, "show x desc": 7, "x": 0, ",": 0, "set b = 1": 0} {
		parsesNone(t, "find a "+s, api.ErrSyntax, 7+at)
	}
	for _, n := range []int{1, -1, 64, 65, math.MaxInt, math.MinInt, 0} {
		parses(t, fmt.Sprint("find a limit ", n), api.Stmt{Verb: "find", Coll: "a", Limit: n})
	}
	for s, l := range map[string][]string{"x": {"x"}, "x,y": {"x", "y"}, "x , x": {"x", "x"}, "a.0.b, 7": {"a.0.b", "7"}, "show, limit": {"show", "limit"}} {
		parses(t, "find a show "+s, api.Stmt{Verb: "find", Coll: "a", Show: l})
	}
}

// P15.1: count and delete, with and without a condition, and nothing else.
func TestCountDelete(t *testing.T) {
	for _, verb := range []string{"count", "delete"} {
		parses(t, verb+" a", api.Stmt{Verb: verb, Coll: "a"})
		parses(t, verb+" a where x in [1]", api.Stmt{Verb: verb, Coll: "a", Where: test("x", "in", list(number(1)))})
		for _, more := range []string{"order by x", "limit 1", "show x", "set x = 1", "b", "1"} {
			parsesNone(t, verb+" a "+more, api.ErrSyntax, len(verb)+3)
			parsesNone(t, verb+" a where x exists "+more, api.ErrSyntax, len(verb)+18)
		}
		parsesNone(t, verb+" a where", api.ErrSyntax, len(verb)+8)
	}
}

// P15.1: update, with and without a condition, with one change and some.
func TestUpdate(t *testing.T) {
	b := change("unset", "b", api.Val{})
	for s, l := range map[string][]api.Change{
		"unset b":                    {b},
		"unset b.0.c":                {change("unset", "b.0.c", api.Val{})},
		"set b = null":               {change("set", "b", null)},
		"set b=[1]":                  {change("set", "b", list(number(1)))},
		"push b {}":                  {change("push", "b", doc())},
		"add b -2":                   {change("add", "b", number(-2))},
		"add b 9223372036854775807":  {change("add", "b", number(math.MaxInt64))},
		"add b -9223372036854775808": {change("add", "b", number(math.MinInt64))},
		"unset b, unset b":           {b, b},
		"set set = 1, unset unset , push push 2,add add 3":   {change("set", "set", number(1)), change("unset", "unset", api.Val{}), change("push", "push", number(2)), change("add", "add", number(3))},
		"set b = 1, unset c, push d [1], add e.f -2":         {change("set", "b", number(1)), change("unset", "c", api.Val{}), change("push", "d", list(number(1))), change("add", "e.f", number(-2))},
		"push 0 \"x\", set 1.where = {\"a\":1}":              {change("push", "0", text("x")), change("set", "1.where", doc(field("a", number(1))))},
		"unset b,unset b,unset b,unset b,unset b,set b=true": {b, b, b, b, b, change("set", "b", boolean(1))},
	} {
		parses(t, "update a "+s, api.Stmt{Verb: "update", Coll: "a", Changes: l})
		parses(t, "update a where x != null "+s, api.Stmt{Verb: "update", Coll: "a", Where: test("x", "!=", null), Changes: l})
	}
	for s, at := range map[string]int{
		"": 0, "b": 0, "foo b": 0, ",": 0, "set": 3, "set = 1": 4, "set b": 5, "set b 1": 6, "set b =": 7, "set b == 1": 7, "set b = c": 8, "set b != 1": 6, "set b = 1 c": 10, "set b = 1,": 10, "set b = 1, c = 2": 11, "set b = 1 set c = 2": 10, "set b = 1 where x exists": 10,
		"unset": 5, "unset b 1": 8, "unset b = 1": 8, "unset b, c": 9, "push b": 6, "push b = 1": 7, "push b c": 7, "add b": 5, "add b \"x\"": 6, "add b = 1": 6, "add b c": 6, "add b [1]": 6, "add b null": 6, "add b 1 2": 8, "\"set\" b = 1": 0, "unset b limit 1": 8, "unset b show c": 8,
	} {
		parsesNone(t, "update a "+s, api.ErrSyntax, 9+at)
		parsesNone(t, "update a where x exists , "+s, api.ErrSyntax, 24)
	}
}

// P15.1: small words are names and steps where a Word may stand; ahead of a path of a condition `not` stands for itself.
func TestSmallWords(t *testing.T) {
	for _, w := range words {
		parses(t, "make "+w, api.Stmt{Verb: "make", Coll: w})
		parses(t, "drop "+w, api.Stmt{Verb: "drop", Coll: w})
		parses(t, "find "+w+" where "+"a."+w+" exists", api.Stmt{Verb: "find", Coll: w, Where: exists("a." + w)})
		parses(t, "index "+w+" "+w, api.Stmt{Verb: "index", Coll: w, Path: w})
		parses(t, "unindex a "+w+"."+w+".0", api.Stmt{Verb: "unindex", Coll: "a", Path: w + "." + w + ".0"})
		parses(t, "find a order by "+w+", "+w+" desc show "+w+","+w, api.Stmt{Verb: "find", Coll: "a", Order: []api.Order{{Path: w}, {Path: w, Desc: true}}, Show: []string{w, w}})
		parses(t, "update a set "+w+" = 1, unset "+w, api.Stmt{Verb: "update", Coll: "a", Changes: []api.Change{change("set", w, number(1)), change("unset", w, api.Val{})}})
		parses(t, "update a push "+w+" 1, add "+w+" 2", api.Stmt{Verb: "update", Coll: "a", Changes: []api.Change{change("push", w, number(1)), change("add", w, number(2))}})
		if w != "not" {
			conds(t, w+" exists", exists(w))
			conds(t, "not "+w+" in []", not(test(w, "in", list())))
			conds(t, w+" = 1 and ("+w+".x < 2)", and(is(w, 1), test(w+".x", "<", number(2))))
		}
		if w != "null" && w != "true" && w != "false" {
			parsesNone(t, "insert a "+w, api.ErrSyntax, 9)
			condsNone(t, "x = "+w, api.ErrSyntax, 4)
		}
		// They are small, and no quoted texts.
		parsesNone(t, strings.ToUpper(w)+" a", api.ErrSyntax, 0)
		parsesNone(t, `"`+w+`" a`, api.ErrSyntax, 0)
	}
	condsNone(t, "not exists", api.ErrSyntax, 10)
	condsNone(t, "not = 1", api.ErrSyntax, 4)
	condsNone(t, "not in [1]", api.ErrSyntax, 7)
	condsNone(t, "not.x exists", api.ErrSyntax, 3)
	conds(t, "not not exists exists", not(not(exists("exists"))))
	for _, s := range []string{"Find a", "find a WHERE x exists", "find a where x EXISTS", "find a Limit 3", "find a where x = Null", "find a order BY x", "find a order by x DESC", "update a SET b = 1", "find a where x exists AND y exists"} {
		at := strings.IndexFunc(s, func(r rune) bool { return 'A' <= r && r <= 'Z' })
		parsesNone(t, s, api.ErrSyntax, at)
	}
}

// P15.1: a token of each kind behind each beginning of a statement, held against another hand: what may not stand there is told there.
func TestEachToken(t *testing.T) {
	whole := []string{
		"make a", "index a b . 0 . c", `insert a { "b" : [ 1 , null , { } ] , "c" : "d" }`, "get a 5",
		`find a where x = 1 and not ( y <= "z" or in in [ ] ) or z exists order by x desc , y limit 5 show p , q . r`,
		"count a where not not x exists", "delete a where ( ( x > false ) )",
		`update a where x != true set b = { } , unset c . 0 , push d 1 , add e -2`,
		"x = 1 and not ( y < 2 or z exists )", "not x in [ 1 , 2 ] or a . b exists and ( c exists )",
	}
	some := slices.Concat([]string{"a", "0", "-5", "100", `"x"`, `"b"`, letters(25)}, words, signs)
	taken := 0
	for _, s := range whole {
		l := strings.Fields(s)
		for n := range len(l) + 1 {
			ahead := strings.Join(l[:n], " ")
			byAnotherHand(t, ahead)
			for _, x := range some {
				if byAnotherHand(t, ahead+" "+x) {
					taken++
				}
				for _, y := range []string{"exists", "x", "1", "= 1", ")", "]", "}", `"b" : 2 }`} {
					byAnotherHand(t, ahead+" "+x+" "+y)
				}
			}
		}
	}
	if taken < 100 {
		t.Errorf("%d texts were taken", taken)
	}
}

// P15.1: statements by chance, as they are and with tokens changed, held against another hand.
func TestByChance(t *testing.T) {
	r := rand.New(rand.NewSource(1))
	taken, refused := 0, map[api.Errno]int{}
	for range 30000 {
		l := strings.Fields(handText(random(r)))
		for range r.Intn(3) {
			at := r.Intn(len(l))
			switch r.Intn(5) {
			case 0:
				l[at] = one(r, slices.Concat(words, signs)...)
			case 1:
				l[at] = l[r.Intn(len(l))]
			case 2:
				l = append(l[:at], l[min(at+1, len(l)-1):]...)
			case 3:
				l[at] = one(r, letters(25), "100", "-1", `"a"`, `"aa"`, `""`, `"`+letters(25)+`"`, "?", "01", strings.Repeat("[", 9), `{"a":1,"a":2}`)
			case 4:
				l[at] = strings.Repeat(one(r, "( ", "not ", "not ( "), 1+r.Intn(20)) + l[at]
			}
		}
		s := strings.Join(l, one(r, " ", "\n", " \t\r"))
		if byAnotherHand(t, s) {
			taken++
		} else {
			_, _, e := parse.Parse(s)
			refused[e]++
		}
		if t.Failed() {
			t.Fatalf("%q", s)
		}
	}
	for _, e := range []api.Errno{api.ErrSyntax, api.ErrLimit, api.ErrDup, api.ErrDeep, api.ErrNumber} {
		if refused[e] < 5 {
			t.Errorf("error %d was told of %d texts", int(e), refused[e])
		}
	}
	if taken < 8000 {
		t.Errorf("%d texts were taken", taken)
	}
}
