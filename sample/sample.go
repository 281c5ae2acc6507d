// Package sample: values and numbers to test with, and texts that tell all of a value. It is called by tests alone.
package sample

import (
	"slices"
	"strconv"
	"strings"

	"tidemark/api"
)

// Null is Null.
func Null() api.Val { return api.Val{Kind: api.Null} }

// Bool is a Bool, good if n is 0 or 1.
func Bool(n int64) api.Val { return api.Val{Kind: api.Bool, N: n} }

// Int is an Int.
func Int(n int64) api.Val { return api.Val{Kind: api.Int, N: n} }

// Text is a Text.
func Text(s string) api.Val { return api.Val{Kind: api.Text, S: s} }

// List is a List.
func List(l ...api.Val) api.Val { return api.Val{Kind: api.List, L: l} }

// Doc is a Doc, its fields as they come.
func Doc(l ...api.Field) api.Val { return api.Val{Kind: api.Doc, F: l} }

// Field is a field.
func Field(name string, v api.Val) api.Field { return api.Field{Name: name, V: v} }

// Letters is a text of n letters.
func Letters(n int) string { return strings.Repeat("a", n) }

// Nulls is a List of n Nulls.
func Nulls(n int) api.Val { return List(slices.Repeat([]api.Val{Null()}, n)...) }

// Fields is a Doc of n fields, for n up to 100000: f00000, f00001 and so on, which rise.
func Fields(n int) api.Val {
	d := Doc()
	for i := range n {
		digits := strconv.Itoa(100000 + i)[1:]
		d.F = append(d.F, Field("f"+digits, Null()))
	}
	return d
}

// DeepLists is n Lists within one another.
func DeepLists(n int) api.Val {
	v := List()
	for range n - 1 {
		v = List(v)
	}
	return v
}

// DeepDocs is n Docs within one another.
func DeepDocs(n int) api.Val {
	v := Doc()
	for range n - 1 {
		v = Doc(Field("a", v))
	}
	return v
}

// Nested are good values that hold lists in lists, and others.
func Nested() []api.Val {
	return []api.Val{
		Doc(
			Field("aa", List(
				List(Text("xyz"), Int(1)),
				Doc(Field("bb", Nulls(3)), Field("cc", Text("yes"))))),
			Field("bb", Text("long enough"))),
		List(List(), Nulls(1), List(Null(), Nulls(1)), Text("ab"), Text("ab")),
		Doc(Field("aa", Doc()), Field("bb", Doc(Field("aa", List(Text("ab")))))),
		Text("abc"),
		Null(),
	}
}
