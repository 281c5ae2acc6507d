package json_test

import (
	"fmt"
	"math"
	"strings"
	"testing"

	"tidemark/api"
	"tidemark/json"
	"tidemark/sample"
)

// The chapter's examples.
func TestExamples(t *testing.T) {
	prints(t, doc(field("a", list(number(1), null)), field("b", text("x\n"))), `{"a":[1,null],"b":"x\n"}`)
	parses(t, " [1 , 2]", list(number(1), number(2)))
	parsesNone(t, "[1,]", api.ErrSyntax, 3)
	parsesNone(t, "1.5", api.ErrNumber, 0)
	parsesNone(t, "01", api.ErrNumber, 0)
	parsesNone(t, "-0", api.ErrNumber, 0)
	parses(t, `{"b":1,"a":2}`, doc(field("a", number(2)), field("b", number(1))))
	parsesNone(t, `{"a":1,"a":2}`, api.ErrDup, 7)
	parsesNone(t, "nul", api.ErrSyntax, 0)
	parsesNone(t, "1 2", api.ErrSyntax, 2)
	takes(t, "[1]x", 0, list(number(1)), 3)
	takes(t, "  7", 1, number(7), 3)
}

// P4.1: each kind of value.
func TestPrint(t *testing.T) {
	prints(t, null, "null")
	prints(t, boolean(0), "false")
	prints(t, boolean(1), "true")
	prints(t, text(""), `""`)
	prints(t, text("a b"), `"a b"`)
	prints(t, list(), "[]")
	prints(t, doc(), "{}")
	prints(t, list(null, boolean(0), boolean(1), number(-7), text("x"), list(), doc()), `[null,false,true,-7,"x",[],{}]`)
	prints(t, list(list(list()), list(number(1), number(2))), "[[[]],[1,2]]")
	prints(t, doc(field("a", null)), `{"a":null}`)
	prints(t, doc(field("A", doc(field("b", doc()))), field("a", list()), field("aa", text("aa"))), `{"A":{"b":{}},"a":[],"aa":"aa"}`)
	for _, n := range []int64{0, 1, -1, 9, 10, -10, 42, 1 << 31, math.MaxInt64, math.MinInt64, math.MinInt64 + 1} {
		prints(t, number(n), fmt.Sprint(n))
		prints(t, list(number(n)), fmt.Sprintf("[%d]", n))
	}
	prints(t, nulls(32), "["+strings.Repeat("null,", 31)+"null]")
	prints(t, deepLists(8), strings.Repeat("[", 8)+strings.Repeat("]", 8))
	prints(t, deepDocs(8), strings.Repeat(`{"a":`, 7)+"{}"+strings.Repeat("}", 7))
	prints(t, text(as(2045)), `"`+as(2045)+`"`)
}

// P4.1: texts and names are quoted.
func TestPrintQuotes(t *testing.T) {
	for _, c := range [][2]string{
		{`"`, `\"`}, {`\`, `\\`}, {"/", "/"}, {"\b\f\n\r\t", `\b\f\n\r\t`}, {"\x00\x01\x0b\x1f", `\u0000\u0001\u000b\u001f`},
		{"\u00e4\u20ac\U0001f600", "\u00e4\u20ac\U0001f600"}, {"\u0080\u2028\ufffd", "\u0080\u2028\ufffd"}, {"[]{},:", "[]{},:"}, {"null", "null"},
	} {
		prints(t, text(c[0]), `"`+c[1]+`"`)
		prints(t, list(null, text("a"+c[0])), `[null,"a`+c[1]+`"]`)
		prints(t, doc(field(c[0], text(c[0]+"z"))), `{"`+c[1]+`":"`+c[1]+`z"}`)
	}
	prints(t, text("\x7f"), `"\u007f"`)
	prints(t, doc(field("\x7f", null)), `{"\u007f":null}`)
	prints(t, text(strings.Repeat("\x01", 2045)), `"`+strings.Repeat(`\u0001`, 2045)+`"`)
}

// P4.1: Print tells Good's errors.
func TestPrintBad(t *testing.T) {
	for _, v := range []api.Val{{}, {Kind: -1}, {Kind: 7}, boolean(2), boolean(-1), {Kind: api.Null, N: 1}, {Kind: api.Int, S: "a"}, {Kind: api.Text, N: 1}, {Kind: api.List, F: doc(field("a", null)).F}, {Kind: api.Doc, L: list(null).L}, doc(field("b", null), field("a", null)), doc(field("a", null), field("a", null))} {
		printsNone(t, v, api.ErrForm)
		printsNone(t, list(null, v), api.ErrForm)
		printsNone(t, doc(field("a", text("\xff")), field("b", v)), api.ErrForm)
	}
	printsNone(t, text("\xff"), api.ErrText)
	printsNone(t, doc(field("\xc3", null)), api.ErrText)
	printsNone(t, list(nulls(33), text("\xed\xa0\x80")), api.ErrText)
	printsNone(t, nulls(33), api.ErrLimit)
	printsNone(t, fields(33), api.ErrLimit)
	printsNone(t, doc(field("", null)), api.ErrLimit)
	printsNone(t, doc(field(as(25), null)), api.ErrLimit)
	printsNone(t, list(deepLists(9), nulls(33)), api.ErrLimit)
	printsNone(t, deepLists(9), api.ErrDeep)
	printsNone(t, deepDocs(9), api.ErrDeep)
	printsNone(t, list(text(as(5000)), deepDocs(8)), api.ErrDeep)
	printsNone(t, text(as(2046)), api.ErrBig)
	printsNone(t, list(text(as(1000)), text(as(1050))), api.ErrBig)
}

// R4: what is handed to Print stays as it is; nil and an empty list are one.
func TestPrintChangesNothing(t *testing.T) {
	for _, v := range append(sample.Nested(), nulls(40), doc(field("b", list(null)), field("a", null)), list(text("\xff"))) {
		a := withRoom(v)
		was := showRoom(a)
		json.Print(a)
		if showRoom(a) != was {
			t.Errorf("%s was changed", short(v))
		}
	}
	for _, v := range []api.Val{null, boolean(1), number(7), text("a"), list(), doc()} {
		w := v
		w.L, w.F = []api.Val{}, []api.Field{}
		s, _ := json.Print(v)
		prints(t, w, s)
	}
}
