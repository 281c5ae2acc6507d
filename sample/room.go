package sample

import (
	"strconv"
	"strings"

	"tidemark/api"
)

// WithRoom is v in new memory, with spare room, filled with marks, behind each of its lists.
func WithRoom(v api.Val) api.Val {
	mark := Text("mark")
	v.S = strings.Clone(v.S)
	v.L = roomy(v.L, mark, WithRoom)
	v.F = roomy(v.F, Field("mark", mark), func(f api.Field) api.Field { return Field(strings.Clone(f.Name), WithRoom(f.V)) })
	return v
}

// StmtWithRoom is x in new memory, with spare room, filled with marks, behind each of its lists.
func StmtWithRoom(x api.Stmt) api.Stmt {
	x.Verb, x.Coll, x.Path = strings.Clone(x.Verb), strings.Clone(x.Coll), strings.Clone(x.Path)
	x.V = WithRoom(x.V)
	x.Where = condWithRoom(x.Where)
	x.Order = roomy(x.Order, api.Order{Path: "mark"}, func(o api.Order) api.Order {
		return api.Order{Path: strings.Clone(o.Path), Desc: o.Desc}
	})
	x.Show = roomy(x.Show, "mark", strings.Clone)
	x.Changes = roomy(x.Changes, Change("mark", "", Null()), func(c api.Change) api.Change {
		return Change(strings.Clone(c.Do), strings.Clone(c.Path), WithRoom(c.V))
	})
	return x
}

func condWithRoom(c api.Cond) api.Cond {
	c.Op, c.Path = strings.Clone(c.Op), strings.Clone(c.Path)
	c.V = WithRoom(c.V)
	c.L = roomy(c.L, Exists("mark"), condWithRoom)
	return c
}

// roomy is l in new memory, each item a copy, with marks in spare room behind them.
func roomy[T any](l []T, mark T, copied func(T) T) []T {
	m := make([]T, 0, len(l)+3)
	for _, x := range l {
		m = append(m, copied(x))
	}
	copy(m[len(m):cap(m)], []T{mark, mark, mark})
	return m
}

// Apart tells whether no two lists, of all values and bytes, share memory, spare room included. What they hold is lost: each list is filled with a mark of its own, which must still be there once all are filled.
func Apart(l []api.Val, b ...[]byte) bool {
	var all lists
	for _, v := range l {
		all.value(v)
	}
	for _, x := range b {
		all.bytes = append(all.bytes, x[:cap(x)])
	}
	return all.apart()
}

// StmtsApart tells so of the lists of all statements.
func StmtsApart(l ...api.Stmt) bool {
	var all lists
	for _, x := range l {
		all.stmt(x)
	}
	return all.apart()
}

// lists are the lists of values, statements and states, each with its spare room.
type lists struct {
	values  [][]api.Val
	fields  [][]api.Field
	conds   [][]api.Cond
	orders  [][]api.Order
	shows   [][]string
	changes [][]api.Change
	colls   [][]api.Coll
	bytes   [][]byte
}

func (a *lists) value(v api.Val) {
	a.values = append(a.values, v.L[:cap(v.L)])
	a.fields = append(a.fields, v.F[:cap(v.F)])
	for _, x := range v.L {
		a.value(x)
	}
	for _, f := range v.F {
		a.value(f.V)
	}
}

func (a *lists) cond(c api.Cond) {
	a.conds = append(a.conds, c.L[:cap(c.L)])
	a.value(c.V)
	for _, x := range c.L {
		a.cond(x)
	}
}

func (a *lists) stmt(x api.Stmt) {
	a.value(x.V)
	a.cond(x.Where)
	a.orders = append(a.orders, x.Order[:cap(x.Order)])
	a.shows = append(a.shows, x.Show[:cap(x.Show)])
	a.changes = append(a.changes, x.Changes[:cap(x.Changes)])
	for _, c := range x.Changes {
		a.value(c.V)
	}
}

// apart tells whether no two of the lists share memory.
func (a *lists) apart() bool {
	number := func(i int) int64 { return int64(i) }
	return apart(a.values, number, func(v *api.Val) *int64 { return &v.N }) &&
		apart(a.fields, number, func(f *api.Field) *int64 { return &f.V.N }) &&
		apart(a.conds, number, func(c *api.Cond) *int64 { return &c.V.N }) &&
		apart(a.orders, strconv.Itoa, func(o *api.Order) *string { return &o.Path }) &&
		apart(a.shows, strconv.Itoa, func(p *string) *string { return p }) &&
		apart(a.changes, number, func(c *api.Change) *int64 { return &c.V.N }) &&
		apart(a.colls, strconv.Itoa, func(c *api.Coll) *string { return &c.Name }) &&
		apart(a.bytes, func(i int) byte { return byte(i) }, func(c *byte) *byte { return c })
}

// apart puts a mark of its number into all items of each list, and tells whether they are there afterwards.
func apart[T any, N comparable](all [][]T, number func(int) N, mark func(*T) *N) bool {
	for i, l := range all {
		for k := range l {
			*mark(&l[k]) = number(i)
		}
	}
	for i, l := range all {
		for k := range l {
			if *mark(&l[k]) != number(i) {
				return false
			}
		}
	}
	return true
}
