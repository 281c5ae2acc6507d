package parse_test

import (
	"fmt"
	"strings"
	"testing"

	"tidemark/api"
	"tidemark/parse"
)

// P15.1: every test.
func TestTests(t *testing.T) {
	for _, p := range []string{"x", "x.y", "0", "x.10.y", "_", "a.b.c.d.e.f.g.h", letters(24)} {
		conds(t, p+" exists", exists(p))
		conds(t, p+" in [1,2]", test(p, "in", list(number(1), number(2))))
		conds(t, p+" in 5", test(p, "in", number(5)))
		for _, op := range ops {
			conds(t, p+op+"-5", test(p, op, number(-5)))
			conds(t, p+" "+op+` {"a":null}`, test(p, op, doc(field("a", null))))
			conds(t, p+op+`"x"`, test(p, op, text("x")))
		}
	}
	conds(t, "in in []", test("in", "in", list()))
	conds(t, "exists exists", exists("exists"))
}

// P15.1: or holds and, and holds not; parts stand in their order.
func TestOrder(t *testing.T) {
	a, b, c, d := exists("a"), exists("b"), exists("c"), is("d", 1)
	conds(t, "a exists or b exists", or(a, b))
	conds(t, "b exists or a exists or d = 1", or(b, a, d))
	conds(t, "a exists and b exists", and(a, b))
	conds(t, "c exists and b exists and a exists and a exists", and(c, b, a, a))
	conds(t, "a exists and b exists or c exists", or(and(a, b), c))
	conds(t, "a exists or b exists and c exists", or(a, and(b, c)))
	conds(t, "a exists and b exists or c exists and d=1", or(and(a, b), and(c, d)))
	conds(t, "a exists or b exists and c exists or d=1", or(a, and(b, c), d))
	conds(t, "not a exists", not(a))
	conds(t, "not not a exists", not(not(a)))
	conds(t, "not a exists and b exists", and(not(a), b))
	conds(t, "a exists and not b exists", and(a, not(b)))
	conds(t, "not a exists or not not b exists and c exists", or(not(a), and(not(not(b)), c)))
	conds(t, "not d = 1 or a exists and b exists or c exists", or(not(d), and(a, b), c))
}

// P15.1: parentheses tell what belongs together, and nothing else.
func TestParentheses(t *testing.T) {
	a, b, c, d := exists("a"), exists("b"), exists("c"), is("d", 1)
	for n := range 6 {
		conds(t, strings.Repeat("(", n)+"a exists"+strings.Repeat(")", n), a)
		conds(t, strings.Repeat("( ", n)+"a exists or b exists"+strings.Repeat(" )", n)+" or c exists", map[bool]api.Cond{true: or(a, b, c), false: or(or(a, b), c)}[n == 0])
	}
	conds(t, "(a exists or b exists)", or(a, b))
	conds(t, "(a exists) or (b exists)", or(a, b))
	conds(t, "a exists or (b exists or c exists)", or(a, or(b, c)))
	conds(t, "(a exists and b exists) and c exists", and(and(a, b), c))
	conds(t, "a exists and (b exists and c exists)", and(a, and(b, c)))
	conds(t, "(a exists and b exists) or c exists", or(and(a, b), c))
	conds(t, "(a exists or b exists) and c exists", and(or(a, b), c))
	conds(t, "a exists and (b exists or c exists)", and(a, or(b, c)))
	conds(t, "a exists and (b exists or c exists) and d=1", and(a, or(b, c), d))
	conds(t, "a exists and (b exists or c exists and d=1)", and(a, or(b, and(c, d))))
	conds(t, "not(a exists)", not(a))
	conds(t, "not(not(a exists))", not(not(a)))
	conds(t, "not(a exists or b exists)", not(or(a, b)))
	conds(t, "not(a exists and b exists)and c exists", and(not(and(a, b)), c))
	conds(t, "((a exists)and((b exists)or(c exists)))or(d=1)", or(and(a, or(b, c)), d))
}

// P15.1: what is no condition.
func TestNoCond(t *testing.T) {
	for s, at := range map[string]int{
		"": 0, " ": 1, "x": 1, "x =": 3, "x = ": 4, "x == 1": 3, "= 1": 0, "x = y": 4, "x exist": 2, "x exists 1": 9, "x exists y": 9, "exists x": 7, "x not exists": 2, "x not in [1]": 2, "x in": 4, "x in (1)": 5, "x in y": 5, "x is 1": 2, "x => 1": 3, "x ! = 1": 2, "x <> 1": 3, "x, y": 1, "x : 1": 2, `"x" = 1`: 0, "null": 4, "1 1": 2,
		"x exists or": 11, "x exists and": 12, "x exists or or y exists": 15, "or x exists": 3, "and x exists": 4, "x exists and or y exists": 16, "x exists y exists": 9, "x exists, y exists": 8, "x exists xor y exists": 9, "not": 3, "not not": 7, "not (": 5, "not )": 4, "not and x exists": 8,
		"(": 1, ")": 0, "()": 1, "(x": 2, "(x)": 2, "(x exists": 9, "(x exists or": 12, "(x exists or)": 12, "(x exists))": 10, "((x exists)": 11, "(x exists) y": 11, "(x exists) = 1": 11, "(x exists]": 9, "[x exists]": 0, "x exists)": 8, "x exists (": 9, "x = 1 (y = 2)": 6, "(x) exists": 2, "x exists not": 9, "x = (1)": 4,
		"where x exists": 6, "x exists set b = 1": 9, "x exists, unset b": 8,
	} {
		condsNone(t, s, api.ErrSyntax, at)
	}
	// A statement may go on behind its condition.
	for _, s := range []string{"limit 2", "order by y", "show y"} {
		if c, at, e := parse.Cond("x = 1 " + s); e != api.ErrSyntax || at != 6 || showCond(c) != showCond(api.Cond{}) {
			t.Errorf("Cond(%q): %s, %d, %d", s, showCond(c), at, int(e))
		}
	}
}

// P15.1: `(` and `not` within 16 of these are taken, within 17 not.
func TestDeep(t *testing.T) {
	x := exists("x")
	for n := range 18 {
		conds(t, strings.Repeat("not ", n)+"x exists", nots(n, x))
		conds(t, strings.Repeat("(", n)+"x exists"+strings.Repeat(")", n), x)
		conds(t, strings.Repeat("(", 17-n)+strings.Repeat("not ", n)+"x exists"+strings.Repeat(")", 17-n), nots(n, x))
		conds(t, strings.Repeat("not ", n)+strings.Repeat("(", 17-n)+"x exists or x exists"+strings.Repeat(")", 17-n), map[bool]api.Cond{true: or(nots(n, x), x), false: nots(n, or(x, x))}[n == 17])
	}
	for _, behind := range []string{"x exists", "", ")", "x = [[[[[[[[[1]]]]]]]]]", "100 exists", "not", "(", "="} {
		for _, n := range []int{18, 19, 40, 400} {
			condsNone(t, strings.Repeat("not ", n)+behind, api.ErrDeep, 17*4)
			condsNone(t, strings.Repeat("(", n)+behind, api.ErrDeep, 17)
			condsNone(t, strings.Repeat("not(", n)+behind, api.ErrDeep, 8*4+3)
			condsNone(t, "x exists or "+strings.Repeat("( ", n)+behind, api.ErrDeep, 12+17*2)
		}
	}
	// Those that have come to their end count no more.
	beside := fmt.Sprintf("%sx exists%s", strings.Repeat("(", 17), strings.Repeat(")", 17))
	conds(t, beside+" or "+beside+" and "+strings.Repeat("not ", 17)+"x exists", or(x, and(x, nots(17, x))))
	conds(t, strings.Repeat("not ", 17)+"x exists and "+strings.Repeat("not ", 17)+"x exists", and(nots(17, x), nots(17, x)))
	conds(t, "(not x exists and "+strings.Repeat("not ", 16)+"x exists) or not x exists", or(and(not(x), nots(16, x)), not(x)))
	condsNone(t, "(not x exists and "+strings.Repeat("not ", 17)+"x exists)", api.ErrDeep, 18+16*4)
	// Where they may not stand at all, that is told; and what stands further to the left.
	condsNone(t, strings.Repeat("(", 17)+"x (", api.ErrSyntax, 19)
	condsNone(t, strings.Repeat("not ", 17)+"x = not", api.ErrSyntax, 17*4+4)
	condsNone(t, "100 exists and "+strings.Repeat("(", 18), api.ErrSyntax, 0)
	condsNone(t, `x = {"":1} and `+strings.Repeat("(", 18), api.ErrLimit, 4)
}
