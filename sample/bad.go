package sample

import "tidemark/api"

// Fault is a value that is not good, and the error that tells why.
type Fault struct {
	V api.Val
	E api.Errno
}

// Bad are values with each error that a value can have; the last ones have some, of which the first is told.
func Bad() []Fault {
	return []Fault{
		{api.Val{}, api.ErrForm},
		{api.Val{Kind: api.Doc + 1}, api.ErrForm},
		{api.Val{Kind: -1}, api.ErrForm},
		{api.Val{Kind: 256 + api.Null}, api.ErrForm},
		{api.Val{Kind: api.Null, N: 1}, api.ErrForm},
		{api.Val{Kind: api.Int, S: "a"}, api.ErrForm},
		{api.Val{Kind: api.Text, S: "a", N: 1}, api.ErrForm},
		{api.Val{Kind: api.List, F: []api.Field{Field("a", Null())}}, api.ErrForm},
		{api.Val{Kind: api.Doc, L: []api.Val{Null()}}, api.ErrForm},
		{Bool(2), api.ErrForm},
		{Bool(-1), api.ErrForm},
		{Bool(256), api.ErrForm},
		{List(Null(), Bool(2)), api.ErrForm},
		{Doc(Field("b", Null()), Field("a", Null())), api.ErrForm},
		{Doc(Field("a", Null()), Field("a", Null())), api.ErrForm},
		{Text("\xff"), api.ErrText},
		{Text("a\xc3"), api.ErrText},
		{Doc(Field("\xff", Null())), api.ErrText},
		{Nulls(api.MaxParts + 1), api.ErrLimit},
		{Fields(api.MaxParts + 1), api.ErrLimit},
		{Doc(Field("", Null())), api.ErrLimit},
		{Doc(Field(Letters(api.MaxName+1), Null())), api.ErrLimit},
		{DeepLists(api.MaxDepth + 1), api.ErrDeep},
		{DeepDocs(api.MaxDepth + 1), api.ErrDeep},
		{Text(Letters(2046)), api.ErrBig},
		{List(Text(Letters(1022)), Text(Letters(1022))), api.ErrBig},
		{List(Text(Letters(3000)), Text("\xff"), Bool(2)), api.ErrForm},
		{List(DeepLists(8), Nulls(33), Text("\xff")), api.ErrText},
		{List(Text(Letters(3000)), DeepLists(8), Nulls(33)), api.ErrLimit},
		{List(Text(Letters(3000)), DeepLists(8)), api.ErrDeep},
	}
}
