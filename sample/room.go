package sample

import (
	"strings"

	"tidemark/api"
)

// WithRoom is v in new memory, with spare room, filled with marks, behind each of its lists.
func WithRoom(v api.Val) api.Val {
	mark := Text("mark")
	l := make([]api.Val, 0, len(v.L)+3)
	for _, x := range v.L {
		l = append(l, WithRoom(x))
	}
	f := make([]api.Field, 0, len(v.F)+3)
	for _, x := range v.F {
		f = append(f, Field(strings.Clone(x.Name), WithRoom(x.V)))
	}
	copy(l[len(l):cap(l)], []api.Val{mark, mark, mark})
	copy(f[len(f):cap(f)], []api.Field{Field("m", mark), Field("a", mark), Field("", mark)})
	v.L, v.F, v.S = l, f, strings.Clone(v.S)
	return v
}

// Apart tells whether no two lists, of all values and bytes, share memory, spare room included. What they hold is lost: each list is filled with a mark of its own, which must still be there once all are filled.
func Apart(l []api.Val, b ...[]byte) bool {
	var all lists
	for _, v := range l {
		all.add(v)
	}
	for i, x := range b {
		b[i] = x[:cap(x)]
	}
	return apart(all.values, func(v *api.Val) *int64 { return &v.N }) &&
		apart(all.fields, func(f *api.Field) *int64 { return &f.V.N }) &&
		apart(b, func(c *byte) *byte { return c })
}

// lists are the lists of values, each with its spare room.
type lists struct {
	values [][]api.Val
	fields [][]api.Field
}

func (a *lists) add(v api.Val) {
	a.values = append(a.values, v.L[:cap(v.L)])
	a.fields = append(a.fields, v.F[:cap(v.F)])
	for _, x := range v.L {
		a.add(x)
	}
	for _, f := range v.F {
		a.add(f.V)
	}
}

// apart puts the number of each list into all of its items, and tells whether they are there afterwards.
func apart[T any, N byte | int64](all [][]T, mark func(*T) *N) bool {
	for i, l := range all {
		for k := range l {
			*mark(&l[k]) = N(i)
		}
	}
	for i, l := range all {
		for k := range l {
			if *mark(&l[k]) != N(i) {
				return false
			}
		}
	}
	return true
}
