package json_test

import (
	"fmt"
	"math"
	"strings"
	"testing"

	"tidemark/api"
	"tidemark/json"
	"tidemark/value"
)

const (
	blanks     = " \t\n\r"
	beginnings = `ntf"[{-0123456789`
)

// P4.1: blanks before and behind each part.
func TestBlanks(t *testing.T) {
	want := doc(field("a", list(number(1), text(" x "), doc())), field("b", null))
	for _, b := range []string{"", " ", "\t", "\n", "\r", " \r\n\t "} {
		s := ""
		for _, part := range []string{"{", `"a"`, ":", "[", "1", ",", `" x "`, ",", "{", "}", "]", ",", `"b"`, ":", "null", "}"} {
			s += b + part
		}
		reads(t, s, want)
		reads(t, s+b, want)
		reads(t, b+"["+b+"]", list())
		reads(t, b+"{"+b+"}", doc())
		reads(t, b+"-5", number(-5))
	}
}

// P4.1: each byte at each place: ErrSyntax there, if it may not stand there.
func TestEachByte(t *testing.T) {
	for c := range 256 {
		b := string([]byte{byte(c)})
		for _, x := range []struct{ ahead, behind, may string }{
			{"", "1", beginnings},
			{"", "", beginnings},
			{"[", "1]", beginnings + "]"},
			{"[1,", "1]", beginnings},
			{"[1 ", ",2]", ",]"},
			{"[[] ", ",2]", ",]"},
			{"[null", ",2]", ",]"},
			{"{", `"a":1}`, `"}`},
			{`{"a"`, `:1}`, ":"},
			{`{"a" `, `1}`, ":"},
			{`{"a":`, `1}`, beginnings},
			{`{"a":1 `, `,"b":2}`, ",}"},
			{`{"a":[]`, `,"b":2}`, ",}"},
			{`{"a":1,`, `"b":2}`, `"`},
		} {
			if !strings.Contains(blanks+x.may, b) {
				fails(t, x.ahead+b+x.behind, api.ErrSyntax, len(x.ahead))
			}
		}
		for _, whole := range []string{"1 ", "null", `"a"`, "[1]", "{} \n"} {
			if !strings.Contains(blanks, b) {
				parsesNone(t, whole+b, api.ErrSyntax, len(whole))
				parsesNone(t, whole+b+" 1", api.ErrSyntax, len(whole))
			}
		}
	}
}

// P4.1: ErrArg for a place that is none; the end is a place; what stands ahead of it is not looked at.
func TestPlaces(t *testing.T) {
	for _, s := range []string{"", "1", "[1]", "  ", "\xff"} {
		for _, from := range []int{-1, math.MinInt, len(s) + 1, math.MaxInt} {
			takesNone(t, s, from, api.ErrArg, 0)
		}
		takesNone(t, s, len(s), api.ErrSyntax, len(s))
	}
	takes(t, "12,", 1, number(2), 2)
	takes(t, "-7", 1, number(7), 2)
	takes(t, "[[1] , 2]", 1, list(number(1)), 4)
	takes(t, `x"a"b`, 1, text("a"), 4)
	takes(t, "null \t\r\n true", 4, boolean(1), 13)
	takes(t, "truefalse", 0, boolean(1), 4)
	takes(t, "truefalse", 4, boolean(0), 9)
	takes(t, "\xff1\xff", 1, number(1), 2)
	takesNone(t, "\u00e41", 1, api.ErrSyntax, 1)
	takesNone(t, "[1] ", 3, api.ErrSyntax, 4)
	takes(t, `"a"b"`, 2, text("b"), 5)
	takesNone(t, `"a"b`, 2, api.ErrSyntax, 2)
}

// P4.1: words are read as they are, or not at all.
func TestWords(t *testing.T) {
	for word, v := range map[string]api.Val{"null": null, "true": boolean(1), "false": boolean(0)} {
		reads(t, word, v)
		for n := range len(word) - 1 {
			fails(t, word[:n+1], api.ErrSyntax, 0)
			fails(t, word[:n+1]+" "+word[n+1:], api.ErrSyntax, 0)
			fails(t, "["+word[:n+1]+"]", api.ErrSyntax, 1)
		}
		fails(t, strings.ToUpper(word), api.ErrSyntax, 0)
		fails(t, word[:len(word)-1]+strings.ToUpper(word[len(word)-1:]), api.ErrSyntax, 0)
		fails(t, `{"a":`+word[:3]+"x}", api.ErrSyntax, 5)
		parsesNone(t, word+word, api.ErrSyntax, len(word))
		parsesNone(t, word+"x", api.ErrSyntax, len(word))
	}
	for _, s := range []string{"nan", "none", "tru3", "flase", "NaN", "undefined", "Infinity", "'a'", "+1", ".5", "a"} {
		fails(t, s, api.ErrSyntax, 0)
		fails(t, "[1, "+s+"]", api.ErrSyntax, 4)
	}
}

// P4.1: numbers at their limits and one past them, with a nought ahead, -0, -, and what may not stand behind the digits.
func TestNumbers(t *testing.T) {
	for _, n := range []int64{0, 1, -1, 9, 10, 19, -90, 100, 1000000000000000000, -1000000000000000000, math.MaxInt64, math.MaxInt64 - 1, math.MinInt64, math.MinInt64 + 1} {
		reads(t, fmt.Sprint(n), number(n))
	}
	for _, s := range []string{
		"9223372036854775808", "-9223372036854775809", "9999999999999999999", "10000000000000000000", "-10000000000000000000",
		"18446744073709551615", "18446744073709551616", "18446744073709551617", "12345678901234567890123", strings.Repeat("9", 5000), "-1" + strings.Repeat("0", 5000),
		"00", "01", "-01", "007", "-00", "000", "0000000000000000000000001", "09223372036854775807", "-09223372036854775808", "-0", "-0.0", "-0e1",
		"1.5", "1.", "0.5", "0.", "-1.5", "1e5", "1E5", "1e", "1E", "0e0", "-7E+2", "10.", "9223372036854775807.", "9223372036854775808e", "1.x", "1e]", "1E,",
	} {
		fails(t, s, api.ErrNumber, 0)
		fails(t, "["+s+"]", api.ErrNumber, 1)
		fails(t, "[ 1 , "+s+",", api.ErrNumber, 6)
		fails(t, `{"a": `+s, api.ErrNumber, 6)
	}
	for _, s := range []string{"-", "--1", "-x", "- 1", "-+1", "-.5", "-e5", "-E", "-]", "-\"", "-\xff", "-\x00", "-null", "-\u0661"} {
		fails(t, s, api.ErrSyntax, 1)
		fails(t, "["+s+"]", api.ErrSyntax, 2)
		fails(t, `{"a":`+s, api.ErrSyntax, 6)
	}
	for _, tail := range []string{"x", "+", "-", "-1", "_1", "f", "n", "d", "\"", "[", "{", "/", ":", "\x00", "\xff", "\u0661"} {
		takes(t, "1"+tail, 0, number(1), 1)
		takes(t, "-20"+tail, 0, number(-20), 3)
		takes(t, "0"+tail, 0, number(0), 1)
		parsesNone(t, "10"+tail, api.ErrSyntax, 2)
		fails(t, "[10"+tail+"]", api.ErrSyntax, 3)
	}
}

// P4.1: quoted texts, and Unquote's faults at their first byte.
func TestQuoted(t *testing.T) {
	reads(t, `"\"\\\/\b\f\n\r\t\u0041\u00E4\ud83d\ude00"`, text("\"\\/\b\f\n\r\tA\u00e4\U0001f600"))
	reads(t, "\"\x7f\u00e4\u20ac\U0001f600\u2028\"", text("\x7f\u00e4\u20ac\U0001f600\u2028"))
	reads(t, `"\\"`, text(`\`))
	reads(t, `"\\\\"`, text(`\\`))
	reads(t, `"\\\""`, text(`\"`))
	reads(t, `["\\",",","]"]`, list(text(`\`), text(","), text("]")))
	reads(t, `{"\"":"}","\u0061":":"}`, doc(field("\"", text("}")), field("a", text(":"))))
	form := []string{`"`, `"a`, `"\"`, `"\`, `"\u`, `"\u004`, `"\q"`, `"\u12"`, `"\u00g0"`, `"\U0041"`, "\"a\nb\"", "\"\x00\"", "\"\x1f\"", "\"\\\xff\"", "\"\\\u00e4\"", `"a\ `, `"\\\"`, `"\q\ud800"`}
	half := []string{"\"\xff\"", "\"a\xc3\"", "\"\xe2\x82", "\"\xed\xa0\x80\"", "\"\xc0\x80\"", "\"\xf4\x90\x80\x80\"", `"\ud800"`, `"\udc00"`, `"\ud83d\u0041"`, `"\ud83d`, `"\ud83dx`, `"\ude00\ud83d"`, "\"\xff\n", `"\ud800\q"`}
	for wrong, l := range map[api.Errno][]string{api.ErrSyntax: form, api.ErrText: half} {
		for _, s := range l {
			fails(t, s, wrong, 0)
			fails(t, "["+s+"]", wrong, 1)
			fails(t, `["x", `+s+", 01]", wrong, 6)
			fails(t, "{"+s+":1}", wrong, 1)
			fails(t, `{"a":1, `+s+":01}", wrong, 8)
			fails(t, `{"a":`+s, wrong, 5)
		}
	}
}

// P4.1: the text's end in every part. Within a quoted text and a word it is told at their first byte.
func TestEnds(t *testing.T) {
	parts := []string{" ", "{", " ", `"ab"`, " ", ":", " ", "[", " ", "10", " ", ",", "-", "5", ",", `"x\n\u00e4"`, ",", "true", ",", "null", ",", "[", "]", ",", "false", " ", "]", " ", ",", `"b"`, ":", "{", " ", "}", " ", "}"}
	all := strings.Join(parts, "")
	at := 0
	for _, p := range parts {
		for n := range len(p) {
			place := at + n
			if len(p) > 2 {
				place = at
			}
			fails(t, all[:at+n], api.ErrSyntax, place)
		}
		at += len(p)
	}
	if _, _, e := json.Parse(all); e != api.OK {
		t.Errorf("Parse of %q: %d", all, int(e))
	}
	for _, s := range []string{"", " ", " \t\r\n"} {
		fails(t, s, api.ErrSyntax, len(s))
	}
}

// P4.1: fields in any order; of one name there is one.
func TestFields(t *testing.T) {
	a, b, c := `"a":1`, `"aa":[{"z":1,"y":2}]`, `"b":"x"`
	want := doc(field("a", number(1)), field("aa", list(doc(field("y", number(2)), field("z", number(1))))), field("b", text("x")))
	for _, l := range [][]string{{a, b, c}, {a, c, b}, {b, a, c}, {b, c, a}, {c, a, b}, {c, b, a}} {
		reads(t, "{"+strings.Join(l, ",")+"}", want)
	}
	reads(t, `{"\u00e4":1,"z":2,"Z":3}`, doc(field("Z", number(3)), field("z", number(2)), field("\u00e4", number(1))))
	reads(t, `{"a":{"a":{"a":1}},"b":[{"a":1},{"a":1}]}`, doc(field("a", doc(field("a", doc(field("a", number(1)))))), field("b", list(doc(field("a", number(1))), doc(field("a", number(1)))))))
	fails(t, `{"a":1,"b":2, "a":1}`, api.ErrDup, 14)
	fails(t, `{"b":1,"a":2,"a"`, api.ErrDup, 13)
	fails(t, `{"b":1,"a":2,"b":`, api.ErrDup, 13)
	fails(t, `{"a":1,"\u0061":2}`, api.ErrDup, 7)
	fails(t, "{\"\\u00e4\":1,\"\u00e4\":2}", api.ErrDup, 12)
	fails(t, `{"a":{"b":1,"b":2}}`, api.ErrDup, 12)
	fails(t, `{"a":{"b":1},"c":[{"b":2}],"b":3,"a":4}`, api.ErrDup, 33)
	fails(t, `[{"a":1},{"a":1,"a":1}]`, api.ErrDup, 16)
}

// docOf is the text of a Doc of n fields, without its end.
func docOf(n int) string {
	s := "{"
	for i := range n {
		s += fmt.Sprintf(`"f%05d":null,`, i)
	}
	return s
}

// P4.1: names just as long as they may be, and longer; by their bytes, not by the text's.
func TestNames(t *testing.T) {
	for _, c := range [][2]string{{"a", "a"}, {as(24), as(24)}, {strings.Repeat("\u00e4", 12), strings.Repeat("\u00e4", 12)}, {strings.Repeat(`\u00e4`, 12), strings.Repeat("\u00e4", 12)}, {strings.Repeat(`\ud83d\ude00`, 6), strings.Repeat("\U0001f600", 6)}, {strings.Repeat(`\"`, 24), strings.Repeat(`"`, 24)}} {
		reads(t, `{"`+c[0]+`":1}`, doc(field(c[1], number(1))))
		fails(t, `{"b":1, "`+c[0]+strings.Repeat("x", 25-len(c[1]))+`":1}`, api.ErrLimit, 8)
	}
	for _, name := range []string{"", as(25), as(5000), strings.Repeat("\u00e4", 13), strings.Repeat(`\u00e4`, 12) + "a"} {
		fails(t, `{"`+name+`":1}`, api.ErrLimit, 1)
		fails(t, `[{ "`+name+`" 01`, api.ErrLimit, 3)
		fails(t, `{"a":1,"`+name+`":1,"`+name+`":2}`, api.ErrLimit, 7)
	}
}

// P4.1: of a name, Unquote's faults are told first, then that it is one too many, then its bytes, then that it is there.
func TestOneName(t *testing.T) {
	reads(t, docOf(31)+`"z":null}`, doc(append(fields(31).F, field("z", null))...))
	full := docOf(32)
	at := len(full)
	for _, name := range []string{`"z"`, `"a"`, `""`, `"` + as(25) + `"`, `"f00000"`, `"f00031"`, `"\u0066\u0030\u0030\u0030\u0030\u0030"`} {
		fails(t, full+name+":null}", api.ErrLimit, at)
		fails(t, full+name, api.ErrLimit, at)
		fails(t, full+"  "+name+" x", api.ErrLimit, at+2)
	}
	for _, name := range []string{`"f00000`, `"\q"`, `"z\`, "\"\n\"", "x", "}", ",", "]", "1", "null", ":", ""} {
		fails(t, full+name, api.ErrSyntax, at)
	}
	for _, name := range []string{"\"f00000\xff\"", "\"\xff\"", `"\ud800"`, `"\udfff`, "\"" + as(30) + "\xc3\""} {
		fails(t, full+name+":null}", api.ErrText, at)
		fails(t, `{"a":1,`+name+":null}", api.ErrText, 7)
	}
	fails(t, docOf(31)+`"f00007":null}`, api.ErrDup, len(docOf(31)))
	fails(t, docOf(31)+`"f00007" 1`, api.ErrDup, len(docOf(31)))
	fails(t, docOf(31)+`"":null}`, api.ErrLimit, len(docOf(31)))
	fails(t, docOf(31)+`"f00007`, api.ErrSyntax, len(docOf(31)))
}

// P4.1: a value that is one too many is told by its first byte alone, whatever stands behind it.
func TestOneTooMany(t *testing.T) {
	reads(t, "["+strings.Repeat("null,", 31)+"null]", nulls(32))
	full := "[" + strings.Repeat("null,", 32)
	at := len(full)
	for c := range 256 {
		b := string([]byte{byte(c)})
		switch {
		case strings.Contains(beginnings, b):
			fails(t, full+b, api.ErrLimit, at)
			fails(t, full+" "+b+"]", api.ErrLimit, at+1)
		case strings.Contains(blanks, b):
			fails(t, full+b, api.ErrSyntax, at+1)
		default:
			fails(t, full+b, api.ErrSyntax, at)
		}
	}
	for _, s := range []string{"null", "nul", "01", "1.5", "-x", `"\q"`, `"a`, "\"\xff\"", "[", "[[[[[[[[[1", "{}", `{"":1}`, "1]"} {
		fails(t, full+s, api.ErrLimit, at)
		fails(t, `{"a":[`+full+s, api.ErrLimit, 6+at)
	}
	fails(t, full, api.ErrSyntax, at)
	fails(t, strings.Repeat("[", 7)+full+"[1", api.ErrLimit, 7+at)
	fails(t, full[:at-1]+" x", api.ErrSyntax, at)
	fails(t, "["+strings.Repeat("[],", 32)+"1]", api.ErrLimit, 97)
	fails(t, "["+strings.Repeat("{},", 32)+"1]", api.ErrLimit, 97)
}

// P4.1: as deep as may be, and deeper.
func TestDeep(t *testing.T) {
	reads(t, strings.Repeat("[", 8)+"1"+strings.Repeat("]", 8), list(list(list(list(list(list(list(list(number(1))))))))))
	reads(t, strings.Repeat(`{"a":`, 7)+"{}"+strings.Repeat("}", 7), deepDocs(8))
	reads(t, `[{"a":[{"a":[{"a":[{}]}]}]}]`, list(doc(field("a", list(doc(field("a", list(doc(field("a", list(doc())))))))))))
	seven := strings.Repeat("[", 7)
	reads(t, seven+"[],{},[1]"+strings.Repeat("]", 7), list(list(list(list(list(list(list(list(), doc(), list(number(1))))))))))
	for _, c := range []string{"[", "{", "[]", "{}", "[1]", `{"":01}`} {
		fails(t, seven+"["+c, api.ErrDeep, 8)
		fails(t, seven+"[1 ,"+c+strings.Repeat("]", 8), api.ErrDeep, 11)
		fails(t, seven+"[], ["+c, api.ErrDeep, 12)
		fails(t, strings.Repeat(`{"a":`, 8)+" "+c, api.ErrDeep, 41)
		fails(t, `[{"a":[{"a":[{"a":[{"b":`+c, api.ErrDeep, 24)
	}
	fails(t, strings.Repeat("[", 1<<16), api.ErrDeep, 8)
	fails(t, strings.Repeat(`{"a":`, 1<<16), api.ErrDeep, 40)
}

// P4.1: as many bytes as may be, and one more, told where the reading began, behind all other faults.
func TestBig(t *testing.T) {
	reads(t, `"`+as(2045)+`"`, text(as(2045)))
	reads(t, `"`+strings.Repeat(`\u0061`, 2045)+`"`, text(as(2045)))
	reads(t, `["`+as(1021)+`",{"b":[],"a":"`+as(1011)+`"}]`, list(text(as(1021)), doc(field("a", text(as(1011))), field("b", list()))))
	if n, e := value.Size(list(text(as(1021)), doc(field("a", text(as(1011))), field("b", list())))); n != 2048 || e != api.OK {
		t.Errorf("the List has %d bytes, %d", n, int(e))
	}
	for _, s := range []string{
		`"` + as(2046) + `"`, `"` + strings.Repeat(`\u0061`, 2046) + `"`, `["` + as(2044) + `"]`, `"` + as(1<<20) + `"`, `"` + strings.Repeat("\u20ac", 682) + `"`,
		`["` + as(1021) + `",{"b":[],"a":"` + as(1012) + `"}]`, `["` + as(1022) + `",{"b":[],"a":"` + as(1011) + `"}]`, `{"a":[[["` + as(3000) + `"]]]}`, `["` + as(3000) + `",["` + as(3000) + `"]]`,
	} {
		fails(t, s, api.ErrBig, 0)
		parsesNone(t, s+" x", api.ErrBig, 0)
		takesNone(t, " \n1 "+s, 3, api.ErrBig, 3)
		fails(t, "[1,"+s+"]", api.ErrBig, 0)
		fails(t, "[1,"+s+" 2]", api.ErrSyntax, 4+len(s))
		fails(t, "["+s+",01]", api.ErrNumber, 2+len(s))
		fails(t, "["+s+`,{"a":1,"a":1}]`, api.ErrDup, 9+len(s))
		fails(t, `{"a":`+s+`,"a":1}`, api.ErrDup, 6+len(s))
		fails(t, `{"a":`+s+`,"":1}`, api.ErrLimit, 6+len(s))
		fails(t, `{"a":`+s+`,"b":"`+"\xff"+`"}`, api.ErrText, 10+len(s))
		fails(t, "["+s+",[[[[[[[[", api.ErrDeep, 9+len(s))
		fails(t, "["+s+","+strings.Repeat("1,", 31)+"2]", api.ErrLimit, 64+len(s))
		fails(t, "["+s, api.ErrSyntax, 1+len(s))
	}
}

// P4.1: of two faults it is the one that stands first from the left.
func TestTwoFaults(t *testing.T) {
	faults := []struct {
		s     string
		e     api.Errno
		place int
	}{
		{"nul", api.ErrSyntax, 0}, {"x", api.ErrSyntax, 0}, {"-", api.ErrSyntax, 1}, {"[1 2]", api.ErrSyntax, 3}, {"[1}", api.ErrSyntax, 2}, {`{"a" 1}`, api.ErrSyntax, 5}, {`{"a":}`, api.ErrSyntax, 5}, {"{1:1}", api.ErrSyntax, 1},
		{`"\q"`, api.ErrSyntax, 0}, {`{"\q":1}`, api.ErrSyntax, 1}, {"01", api.ErrNumber, 0}, {"[1,1.5]", api.ErrNumber, 3}, {"9223372036854775808", api.ErrNumber, 0},
		{strings.Repeat("[", 8), api.ErrDeep, 7}, {"[" + strings.Repeat("1,", 33), api.ErrLimit, 65}, {docOf(33), api.ErrLimit, len(docOf(32))},
		{`"\ud800"`, api.ErrText, 0}, {"{\"\xff\":1}", api.ErrText, 1}, {`{"":1}`, api.ErrLimit, 1}, {`{"a":1,"a":2}`, api.ErrDup, 7},
	}
	for _, a := range faults {
		fails(t, "["+a.s+"]", a.e, 1+a.place)
		for _, b := range faults {
			fails(t, "["+a.s+","+b.s+"]", a.e, 1+a.place)
			fails(t, "[ 1 , "+a.s+" "+b.s, a.e, 6+a.place)
			fails(t, `{"b":`+a.s+`,"c":`+b.s+"}", a.e, 5+a.place)
			fails(t, `{"b":`+a.s+`,"b":`+b.s+"}", a.e, 5+a.place)
			fails(t, `{"b":1,"b":`+a.s+"}", api.ErrDup, 7)
		}
	}
}
