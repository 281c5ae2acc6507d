package parse_test

import (
	"math"
	"math/rand"
	"regexp"
	"slices"
	"strings"
	"testing"

	"tidemark/api"
	"tidemark/parse"
	"tidemark/sample"
	"tidemark/value"
)

// P15.2: the text of every kind of statement.
func TestPrint(t *testing.T) {
	c := api.Change{Do: "unset", Path: "c.0"}
	v := doc(field("a", text("x\n")), field("b", list(number(1), doc(), null, boolean(1), boolean(0), list())))
	for want, x := range map[string]api.Stmt{
		"make a":                     {Verb: "make", Coll: "a"},
		"drop desc":                  {Verb: "drop", Coll: "desc"},
		"make " + letters(24):        {Verb: "make", Coll: letters(24)},
		"index a b . 0 . c":          {Verb: "index", Coll: "a", Path: "b.0.c"},
		"unindex a 99":               {Verb: "unindex", Coll: "a", Path: "99"},
		"index a not":                {Verb: "index", Coll: "a", Path: "not"},
		"insert a null":              {Verb: "insert", Coll: "a", V: null},
		"get a -9223372036854775808": {Verb: "get", Coll: "a", V: number(math.MinInt64)},
		`insert a { "a" : "x\n" , "b" : [ 1 , { } , null , true , false , [ ] ] }`: {Verb: "insert", Coll: "a", V: v},
		`replace a "\\\""`:      {Verb: "replace", Coll: "a", V: text("\\\"")},
		"find a":                {Verb: "find", Coll: "a"},
		"find a where x exists": found(exists("x")),
		"find a order by x":     {Verb: "find", Coll: "a", Order: []api.Order{{Path: "x"}}},
		"find a order by x desc , y . 1 , desc desc limit -5 show p , q . r": {Verb: "find", Coll: "a", Order: []api.Order{{Path: "x", Desc: true}, {Path: "y.1"}, {Path: "desc", Desc: true}}, Limit: -5, Show: []string{"p", "q.r"}},
		"find a limit 9223372036854775807":                                   {Verb: "find", Coll: "a", Limit: math.MaxInt},
		"find a limit -9223372036854775808":                                  {Verb: "find", Coll: "a", Limit: math.MinInt},
		"find a show x":                                                      {Verb: "find", Coll: "a", Show: []string{"x"}},
		"find a where x in [ 1 ] limit 1":                                    {Verb: "find", Coll: "a", Where: test("x", "in", list(number(1))), Limit: 1},
		"count a":                                                            {Verb: "count", Coll: "a"},
		"count a where x . y >= \"z\"":                                       {Verb: "count", Coll: "a", Where: test("x.y", ">=", text("z"))},
		"delete a":                                                           {Verb: "delete", Coll: "a"},
		"delete a where not x exists":                                        {Verb: "delete", Coll: "a", Where: not(exists("x"))},
		"update a unset c . 0":                                               {Verb: "update", Coll: "a", Changes: []api.Change{c}},
		"update a where x != null unset c . 0 , set b = null , push d { } , add e . f -2": {Verb: "update", Coll: "a", Where: test("x", "!=", null), Changes: []api.Change{c, change("set", "b", null), change("push", "d", doc()), change("add", "e.f", number(-2))}},
	} {
		prints(t, x, want)
	}
	// nil and an empty list are one.
	prints(t, api.Stmt{Verb: "find", Coll: "a", V: api.Val{L: []api.Val{}, F: []api.Field{}}, Where: api.Cond{L: []api.Cond{}}, Order: []api.Order{}, Show: []string{}, Changes: []api.Change{}}, "find a")
	prints(t, api.Stmt{Verb: "get", Coll: "a", V: api.Val{Kind: api.List, L: []api.Val{}, F: []api.Field{}}}, "get a [ ]")
	prints(t, found(api.Cond{Op: "exists", Path: "x", L: []api.Cond{}}), "find a where x exists")
}

// P15.2: parentheses just where they are asked for.
func TestPrintParentheses(t *testing.T) {
	a, b, c := exists("a"), exists("b"), is("c", 1)
	for want, x := range map[string]api.Cond{
		"a exists or b exists":                               or(a, b),
		"a exists and b exists and c = 1":                    and(a, b, c),
		"a exists and b exists or c = 1":                     or(and(a, b), c),
		"c = 1 or a exists and b exists":                     or(c, and(a, b)),
		"a exists and b exists or b exists and c = 1":        or(and(a, b), and(b, c)),
		"( a exists or b exists ) or c = 1":                  or(or(a, b), c),
		"c = 1 or ( a exists or b exists )":                  or(c, or(a, b)),
		"( a exists and b exists ) and c = 1":                and(and(a, b), c),
		"c = 1 and ( a exists and b exists )":                and(c, and(a, b)),
		"( a exists or b exists ) and c = 1":                 and(or(a, b), c),
		"c = 1 and ( a exists or b exists ) and a exists":    and(c, or(a, b), a),
		"not a exists":                                       not(a),
		"not not a exists":                                   not(not(a)),
		"not ( a exists or b exists )":                       not(or(a, b)),
		"not ( a exists and b exists )":                      not(and(a, b)),
		"not a exists and b exists":                          and(not(a), b),
		"not a exists or b exists":                           or(not(a), b),
		"not not ( a exists and not b exists )":              not(not(and(a, not(b)))),
		"( ( a exists or b exists ) or c = 1 ) or a exists":  or(or(or(a, b), c), a),
		"a exists and ( b exists or c = 1 and a exists )":    and(a, or(b, and(c, a))),
		"a exists and ( b exists or c = 1 ) or not b exists": or(and(a, or(b, c)), not(b)),
	} {
		prints(t, found(x), "find a where "+want)
	}
}

// P15.2: statements that no text tells: a verb that is none, and parts that do not belong to the verb.
func TestPrintNoVerb(t *testing.T) {
	printsNone(t, api.Stmt{})
	for _, verb := range []string{"", "foo", "Make", "make ", " make", "make a", "where", "set", "1", "\"make\"", "m\u00e4ke", "\xff", "make\x00"} {
		printsNone(t, api.Stmt{Verb: verb, Coll: "a"})
	}
	parts := map[string]func(x *api.Stmt){
		"Path":    func(x *api.Stmt) { x.Path = "b" },
		"V":       func(x *api.Stmt) { x.V = null },
		"Where":   func(x *api.Stmt) { x.Where = exists("x") },
		"Order":   func(x *api.Stmt) { x.Order = []api.Order{{Path: "x"}} },
		"Limit":   func(x *api.Stmt) { x.Limit = 1 },
		"Show":    func(x *api.Stmt) { x.Show = []string{"x"} },
		"Changes": func(x *api.Stmt) { x.Changes = []api.Change{{Do: "unset", Path: "b"}} },
	}
	must := map[string]string{"index": "Path", "unindex": "Path", "insert": "V", "replace": "V", "get": "V", "update": "Changes"}
	for _, verb := range words[:11] {
		plain := api.Stmt{Verb: verb, Coll: "a"}
		if must[verb] != "" {
			printsNone(t, plain)
			parts[must[verb]](&plain)
		}
		prints(t, plain, handText(plain))
		for name, put := range parts {
			x := plain
			put(&x)
			if slices.Contains(strings.Fields(may[verb]), name) {
				prints(t, x, handText(x))
			} else {
				printsNone(t, x)
			}
		}
		for _, coll := range []string{"", " ", "1", "a b", "a.b", "a limit 3", "a\n", "\u00e4", "\xff", letters(25), letters(1 << 20), "-", "a,b", "\"a\"", "a\x00"} {
			x := plain
			x.Coll = coll
			printsNone(t, x)
		}
	}
}

// may is which parts a verb may have.
var may = map[string]string{"make": "", "drop": "", "index": "Path", "unindex": "Path", "insert": "V", "replace": "V", "get": "V", "find": "Where Order Limit Show", "count": "Where", "delete": "Where", "update": "Where Changes"}

// noPaths are texts that are no paths, though some of them could stand in a statement's text.
var noPaths = []string{"", ".", "a.", ".a", "a..b", "a b", "a exists", "01", "a.01", "-1", "100", "a . b", " a", "a ", "a,b", "a desc", "\u00e4", "\xff", letters(25), "a." + letters(25), "a.b.c.d.e.f.g.h.i", letters(1 << 20), "a\x00", "\"a\"", "a = 1", "+1", "1a"}

// bad are values that are not good.
var bad = sample.Bad()

// P15.2: paths that are none, at each place.
func TestPrintNoPath(t *testing.T) {
	for _, p := range noPaths {
		printsNone(t, api.Stmt{Verb: "index", Coll: "a", Path: p})
		printsNone(t, api.Stmt{Verb: "unindex", Coll: "a", Path: p})
		printsNone(t, api.Stmt{Verb: "find", Coll: "a", Order: []api.Order{{Path: "b"}, {Path: p}}})
		printsNone(t, api.Stmt{Verb: "find", Coll: "a", Order: []api.Order{{Path: p, Desc: true}}})
		printsNone(t, api.Stmt{Verb: "find", Coll: "a", Show: []string{p}})
		printsNone(t, api.Stmt{Verb: "find", Coll: "a", Show: []string{"b", p, "c"}})
		printsNone(t, api.Stmt{Verb: "update", Coll: "a", Changes: []api.Change{change("set", p, null)}})
		printsNone(t, api.Stmt{Verb: "update", Coll: "a", Changes: []api.Change{change("unset", p, api.Val{})}})
		printsNone(t, api.Stmt{Verb: "update", Coll: "a", Changes: []api.Change{change("unset", "b", api.Val{}), change("add", p, number(1))}})
		printsNone(t, found(exists(p)))
		printsNone(t, found(is(p, 1)))
		printsNone(t, found(and(exists("b"), test(p, "in", list()))))
		printsNone(t, found(api.Cond{Path: p, Op: "", V: null}))
	}
	// At its beginning `not` would stand for itself.
	for _, p := range []string{"not", "not.x", "not.not"} {
		printsNone(t, found(exists(p)))
		printsNone(t, found(is(p, 1)))
		printsNone(t, found(not(test(p, "in", list()))))
		prints(t, api.Stmt{Verb: "find", Coll: "a", Show: []string{p}}, "find a show"+handPath(p))
	}
	prints(t, found(exists("x.not")), "find a where x . not exists")
}

// P15.2: values that are not good, at each place; and those that are zero.
func TestPrintNoValue(t *testing.T) {
	l := []api.Val{{}, {N: 1}, {S: "a"}, {L: []api.Val{null}}, {F: []api.Field{field("a", null)}}}
	for _, f := range bad {
		l = append(l, f.V)
	}
	l = append(l, list(null, api.Val{}), doc(field("a", api.Val{Kind: 7})), sample.DeepLists(1<<16), sample.DeepDocs(1<<16), sample.Nulls(1<<16), text(letters(1<<20)))
	for _, v := range l {
		for _, verb := range []string{"insert", "replace", "get"} {
			printsNone(t, api.Stmt{Verb: verb, Coll: "a", V: v})
		}
		printsNone(t, api.Stmt{Verb: "update", Coll: "a", Changes: []api.Change{change("set", "b", v)}})
		printsNone(t, api.Stmt{Verb: "update", Coll: "a", Changes: []api.Change{change("unset", "b", api.Val{}), change("push", "b", v)}})
		printsNone(t, api.Stmt{Verb: "update", Coll: "a", Changes: []api.Change{change("add", "b", v)}})
		for _, op := range append([]string{"in"}, ops...) {
			printsNone(t, found(test("x", op, v)))
		}
		printsNone(t, found(or(exists("x"), not(test("x", "=", v)))))
		if v.Kind != 0 || sample.Show(v) != sample.Show(api.Val{}) {
			printsNone(t, api.Stmt{Verb: "make", Coll: "a", V: v})
			printsNone(t, api.Stmt{Verb: "update", Coll: "a", Changes: []api.Change{change("unset", "b", v)}})
			printsNone(t, found(test("x", "exists", v)))
			printsNone(t, found(api.Cond{Op: "not", V: v, L: []api.Cond{exists("x")}}))
			printsNone(t, found(api.Cond{Op: "or", V: v, L: []api.Cond{exists("x"), exists("y")}}))
			printsNone(t, found(api.Cond{V: v}))
		}
	}
}

// P15.2: changes that are none.
func TestPrintNoChange(t *testing.T) {
	for _, c := range []api.Change{
		{}, {Do: "set"}, {Do: "", Path: "b"}, {Do: "foo", Path: "b"}, {Do: "Set", Path: "b", V: null}, {Do: "set =", Path: "b", V: null}, {Do: "=", Path: "b", V: null}, {Do: "set", Path: "b"}, {Do: "push", Path: "b"}, {Do: "add", Path: "b"}, {Do: "unset", Path: "b", V: null},
		{Do: "add", Path: "b", V: text("")}, {Do: "add", Path: "b", V: null}, {Do: "add", Path: "b", V: boolean(1)}, {Do: "add", Path: "b", V: list(number(1))}, {Do: "add", Path: "b", V: api.Val{Kind: api.Int, S: "1"}},
	} {
		printsNone(t, api.Stmt{Verb: "update", Coll: "a", Changes: []api.Change{c}})
		printsNone(t, api.Stmt{Verb: "update", Coll: "a", Changes: []api.Change{change("unset", "b", api.Val{}), c}})
		printsNone(t, api.Stmt{Verb: "update", Coll: "a", Changes: []api.Change{c, change("unset", "b", api.Val{})}})
	}
}

// P15.2: conditions that no text tells, by themselves and within others.
func TestPrintNoCond(t *testing.T) {
	x := exists("x")
	for _, c := range []api.Cond{
		{Path: "x"}, {L: []api.Cond{x}}, {Path: "x", V: number(1)}, or(), and(), or(x), and(x), or(or(x)), {Op: "not"}, {Op: "not", L: []api.Cond{x, x}}, {Op: "not", L: []api.Cond{{}}}, or(x, api.Cond{}), and(api.Cond{}, x), or(x, and(x)), and(or(x), x), and(or(), x),
		{Op: "not", Path: "x", L: []api.Cond{x}}, {Op: "or", Path: "x", L: []api.Cond{x, x}}, {Op: "and", Path: "x", L: []api.Cond{x, x}}, {Op: "and", V: null, L: []api.Cond{x, x}}, {Op: "or", V: null, L: []api.Cond{x, x}}, {Op: "not", V: null, L: []api.Cond{x}},
		{Op: "exists", Path: "x", V: null}, {Op: "exists", Path: "x", L: []api.Cond{x}}, {Op: "exists"}, {Op: "=", Path: "x"}, {Op: "in", Path: "x"}, {Op: "=", V: null}, {Op: "in", Path: "x", V: list(), L: []api.Cond{x}}, {Op: "<", Path: "x", V: null, L: []api.Cond{x}},
		{Op: "==", Path: "x", V: null}, {Op: "!", Path: "x", V: null}, {Op: "foo", Path: "x", V: null}, {Op: "Exists", Path: "x"}, {Op: "(", Path: "x", V: null}, {Op: ".", Path: "x", V: number(1)}, {Op: ",", Path: "x", V: null}, {Op: "= ", Path: "x", V: null}, {Op: "exists or x exists", Path: "x"}, {Op: "OR", L: []api.Cond{x, x}}, {Op: "limit", Path: "x", V: number(1)}, {Op: "=>", Path: "x", V: null},
	} {
		printsNone(t, found(c))
		for _, verb := range []string{"count", "delete"} {
			printsNone(t, api.Stmt{Verb: verb, Coll: "a", Where: c})
		}
		printsNone(t, api.Stmt{Verb: "update", Coll: "a", Where: c, Changes: []api.Change{change("unset", "b", api.Val{})}})
		for _, y := range []api.Cond{not(c), or(x, c), and(c, x), not(not(and(x, or(c, x))))} {
			printsNone(t, found(y))
		}
	}
}

// P15.2: what would stand within too many, or be a text that is too big.
func TestPrintTooMuch(t *testing.T) {
	x := exists("x")
	prints(t, found(nots(17, x)), "find a where "+strings.Repeat("not ", 17)+"x exists")
	for _, n := range []int{18, 19, 100, 1 << 16} {
		printsNone(t, found(nots(n, x)))
	}
	inner := func(c api.Cond) api.Cond { return or(c, x) }
	deep := wrapped(18, x, inner)
	prints(t, found(deep), handText(found(deep)))
	for _, n := range []int{19, 20, 1 << 16} {
		printsNone(t, found(wrapped(n, x, inner)))
	}
	prints(t, found(nots(7, wrapped(10, x, inner))), handText(found(nots(7, wrapped(10, x, inner)))))
	printsNone(t, found(nots(8, wrapped(10, x, inner))))
	// The text of n tests `x exists` has 8 bytes for each, 4 between each two, and 13 ahead: of 681 it has 8181.
	for n, fits := range map[int]bool{681: true, 682: false, 5000: false, 1 << 20: false} {
		y := found(or(slices.Repeat([]api.Cond{x}, n)...))
		if fits {
			prints(t, y, handText(y))
		} else {
			printsNone(t, y)
		}
	}
	// With one blank between each two tokens a text may be too big that is not, if they stand close.
	y, _, e := parse.Parse("find a where " + strings.TrimSuffix(strings.Repeat("x=0 or ", 1100), " or "))
	if e != api.OK || len(y.Where.L) != 1100 {
		t.Errorf("%d tests, %d", len(y.Where.L), int(e))
	}
	printsNone(t, y)
}

// P15.2: what holds itself is told by no text.
func TestPrintEndless(t *testing.T) {
	for _, op := range []string{"or", "and", "not"} {
		for _, other := range []string{"or", "and", "not"} {
			for n := 1; n < 3; n++ {
				l, m := make([]api.Cond, n), make([]api.Cond, n)
				for i := range n {
					l[i], m[i] = api.Cond{Op: op, L: m}, api.Cond{Op: other, L: l}
				}
				if s, e := parse.Print(found(l[0])); e != api.ErrForm || s != "" {
					t.Errorf("%s in %s, %d: %q, %d", op, other, n, cut(s), int(e))
				}
			}
		}
	}
	l := []api.Val{null, null}
	l[1] = list(l...)
	l[1].L = l
	if s, e := parse.Print(api.Stmt{Verb: "get", Coll: "a", V: l[1]}); e != api.ErrForm || s != "" {
		t.Errorf("%q, %d", cut(s), int(e))
	}
}

// told tells, by another hand, whether a text tells x.
func told(x api.Stmt) bool {
	has := map[string]bool{"Path": x.Path != "", "V": sample.Show(x.V) != sample.Show(api.Val{}), "Where": showCond(x.Where) != showCond(api.Cond{}), "Order": len(x.Order) > 0, "Limit": x.Limit != 0, "Show": len(x.Show) > 0, "Changes": len(x.Changes) > 0}
	if !slices.Contains(words[:11], x.Verb) || !nameForm.MatchString(x.Coll) {
		return false
	}
	for part, there := range has {
		if there && !slices.Contains(strings.Fields(may[x.Verb]), part) {
			return false
		}
	}
	paths := slices.Clone(x.Show)
	for _, o := range x.Order {
		paths = append(paths, o.Path)
	}
	for _, c := range x.Changes {
		paths = append(paths, c.Path)
		if !toldChange(c) {
			return false
		}
	}
	switch x.Verb {
	case "index", "unindex":
		paths = append(paths, x.Path)
	case "insert", "replace", "get":
		if value.Good(x.V) != api.OK {
			return false
		}
	case "update":
		if !has["Changes"] {
			return false
		}
	}
	return !slices.ContainsFunc(paths, func(p string) bool { return !pathForm.MatchString(p) }) && (!has["Where"] || toldCond(x.Where, "", 0)) && len(handText(x)) <= 8192
}

var nameForm = regexp.MustCompile(`\A[A-Za-z_][A-Za-z0-9_]{0,23}\z`)

func toldChange(c api.Change) bool {
	switch c.Do {
	case "set", "push":
		return value.Good(c.V) == api.OK
	case "unset":
		return sample.Show(c.V) == sample.Show(api.Val{})
	case "add":
		return c.V.Kind == api.Int && value.Good(c.V) == api.OK
	}
	return false
}

// toldCond tells whether a text tells c as a part of one of that Op that stands within so many `(` and `not`.
func toldCond(c api.Cond, op string, within int) bool {
	none := sample.Show(c.V) == sample.Show(api.Val{})
	switch c.Op {
	case "exists":
		return none && len(c.L) == 0 && pathForm.MatchString(c.Path) && !strings.HasPrefix(c.Path+".", "not.")
	case "in", "=", "!=", "<", "<=", ">", ">=":
		return value.Good(c.V) == api.OK && len(c.L) == 0 && pathForm.MatchString(c.Path) && !strings.HasPrefix(c.Path+".", "not.")
	case "or", "and":
		if op == "not" || op == "and" || op == c.Op {
			within++
		}
		if len(c.L) < 2 {
			return false
		}
	case "not":
		within++
		if len(c.L) != 1 {
			return false
		}
	default:
		return false
	}
	if !none || c.Path != "" || within > 17 {
		return false
	}
	return !slices.ContainsFunc(c.L, func(x api.Cond) bool { return !toldCond(x, c.Op, within) })
}

// spoiled is c with one part changed, somewhere within.
func spoiled(r *rand.Rand, c api.Cond) api.Cond {
	if len(c.L) > 0 && r.Intn(3) > 0 {
		c.L = slices.Clone(c.L)
		i := r.Intn(len(c.L))
		c.L[i] = spoiled(r, c.L[i])
		return c
	}
	switch r.Intn(5) {
	case 0:
		c.Op = one(r, append([]string{"", "or", "and", "not", "exists", "in", "foo", "("}, ops...)...)
	case 1:
		c.Path = one(r, slices.Concat(noPaths, []string{"x", "not", "x.y"})...)
	case 2:
		c.V = spoiledValue(r)
	case 3:
		c.L = append(slices.Clone(c.L), randomCond(r, 1))
	case 4:
		c.L = c.L[:max(len(c.L)-1, 0)]
	}
	return c
}

func spoiledValue(r *rand.Rand) api.Val {
	if r.Intn(2) == 0 {
		return randomValue(r)
	}
	return bad[r.Intn(len(bad))].V
}

// spoil changes a part of x.
func spoil(r *rand.Rand, x *api.Stmt) {
	path := one(r, slices.Concat(noPaths, []string{"x", "not", "x.y"})...)
	switch r.Intn(8) {
	case 0:
		x.Verb = one(r, words...)
	case 1:
		x.Coll = one(r, "", "a b", letters(25), "b", "1", "\xff")
	case 2:
		x.Path = path
	case 3:
		x.V = spoiledValue(r)
	case 4:
		x.Where = spoiled(r, x.Where)
	case 5:
		x.Order = append(x.Order, api.Order{Path: path})
		x.Limit = r.Intn(3)
	case 6:
		x.Show = append(x.Show, path)
	case 7:
		x.Changes = append(x.Changes, change(one(r, "set", "unset", "push", "add", "foo"), one(r, "x", "y.0", path), spoiledValue(r)))
	}
}

// P15.2: statements by chance, as they are and with parts changed, held against another hand.
func TestPrintByChance(t *testing.T) {
	r := rand.New(rand.NewSource(2))
	counts := map[bool]int{}
	for range 30000 {
		x := random(r)
		for range r.Intn(3) {
			spoil(r, &x)
		}
		ok := told(x)
		counts[ok]++
		if ok {
			prints(t, x, handText(x))
		} else {
			printsNone(t, x)
		}
		if t.Failed() {
			return
		}
	}
	if counts[true] < 10000 || counts[false] < 5000 {
		t.Errorf("%v", counts)
	}
}
