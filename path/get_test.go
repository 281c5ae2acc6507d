package path_test

import (
	"testing"

	"tidemark/api"
	"tidemark/path"
	"tidemark/sample"
)

// example is the value of the chapter's examples.
const example = `{"a":[1,{"b":2}],"c":"x"}`

// P6.1, the chapter's examples: Get.
func TestGetExamples(t *testing.T) {
	gets(t, example, "a.1.b", "2")
	gets(t, example, "a.2", "")
	gets(t, example, "a.01", "")
}

// P6.1: where paths lead to.
func TestGet(t *testing.T) {
	gets(t, example, "a", `[1,{"b":2}]`)
	gets(t, example, "c", `"x"`)
	gets(t, example, "a.0", "1")
	gets(t, example, "a.1", `{"b":2}`)
	gets(t, `[[5,6],[7,[8,9]]]`, "1", "[7,[8,9]]")
	gets(t, `[[5,6],[7,[8,9]]]`, "1.1.0", "8")
	gets(t, `{"_":{"A9":{"a":null}}}`, "_.A9.a", "null")
	gets(t, `{"a":{},"b":[],"c":false}`, "a", "{}")
	gets(t, `{"a":{},"b":[],"c":false}`, "b", "[]")
	gets(t, `{"a":{},"b":[],"c":false}`, "c", "false")
	gets(t, `{"A":1,"a":2,"aa":3,"ab":4}`, "A", "1")
	gets(t, `{"A":1,"a":2,"aa":3,"ab":4}`, "a", "2")
	gets(t, `{"A":1,"a":2,"aa":3,"ab":4}`, "ab", "4")
	deep := "7"
	for range 4 {
		deep = `{"a":[` + deep + `]}`
	}
	gets(t, deep, "a.0.a.0.a.0.a.0", "7")
	gets(t, deep, "a.0.a.0.a.0.a", "[7]")
	full := list(nulls(31)...)
	full.L = append(full.L, number(31))
	for p, want := range map[string]string{"31": "31", "30": "null", "9": "null", "32": "", "99": ""} {
		gets(t, told(full, api.OK), p, want)
	}
}

func nulls(n int) []api.Val { return sample.Nulls(n).L }

// P6.1: paths that lead nowhere.
func TestGetNothing(t *testing.T) {
	for _, p := range []string{"z", "b", "A", "aa", "_", "a.b", "a.b.c", "a.2", "a.3", "a.10", "a.99", "a.2.b", "0", "1", "0.a", "c.x", "c.0", "c.a.b", "a.0.0", "a.0.b", "a.1.c", "a.1.0", "a.1.b.c", "a.1.b.0"} {
		gets(t, example, p, "")
	}
	for _, v := range []string{"null", "true", "5", `"a"`, `"abc"`, "[]", "{}"} {
		for _, p := range []string{"a", "0", "1", "a.a", "0.0", "99"} {
			gets(t, v, p, "")
		}
	}
	// A name that is a place is no step's, nor is one of other characters.
	for _, p := range []string{"0", "1", "01", "", "\u00e4", "a-b"} {
		gets(t, "{\"\\u00e4\":4,\"0\":1,\"01\":2,\"1\":3,\"a-b\":5}", p, "")
	}
}

// P6.1: no path leads anywhere, and from a value that is not good none does.
func TestGetOfBad(t *testing.T) {
	for _, p := range append(noSteps(), "a.", ".a", "a..1", "a.b.c.d.e.f.g.h.i", ".", "a.-1", "a.01", "a.1.") {
		gets(t, `[[1,2],[3,4]]`, p, "")
		gets(t, example, p, "")
	}
	for _, f := range sample.Bad() {
		for _, v := range []api.Val{f.V, list(f.V), doc(field("a", number(1)), field("b", f.V)), doc(field("a", f.V))} {
			for _, p := range []string{"a", "0", "b", "f00000", "0.0", "a.a", "", "a."} {
				if x, ok := path.Get(v, p); ok || show(x) != show(api.Val{}) {
					t.Errorf("Get(%s, %s): %s, %t", short(v), p, short(x), ok)
				}
			}
		}
	}
}
