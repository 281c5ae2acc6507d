package sample

import (
	"strconv"
	"strings"

	"tidemark/api"
)

// most is how much of a text Cut leaves.
const most = 200

// Show tells all of a value; nil and an empty list alike.
func Show(v api.Val) string {
	s := shower{}
	s.value(v)
	return s.b.String()
}

// ShowRoom tells all of a value, the spare room of its lists too.
func ShowRoom(v api.Val) string {
	s := shower{room: true}
	s.value(v)
	return s.b.String()
}

// ShowStmt tells all of a statement; nil and an empty list alike.
func ShowStmt(x api.Stmt) string {
	s := shower{}
	s.stmt(x)
	return s.b.String()
}

// ShowStmtRoom tells all of a statement, the spare room of its lists too.
func ShowStmtRoom(x api.Stmt) string {
	s := shower{room: true}
	s.stmt(x)
	return s.b.String()
}

// ShowCond tells all of a condition; nil and an empty list alike.
func ShowCond(c api.Cond) string {
	s := shower{}
	s.cond(c)
	return s.b.String()
}

// Short is the beginning of what Show tells.
func Short(v api.Val) string { return Cut(Show(v)) }

// Cut is the beginning of a text that is long.
func Cut(s string) string {
	if len(s) > most {
		return s[:most] + "..."
	}
	return s
}

// shower writes values and statements, with the spare room of their lists or without it.
type shower struct {
	b    strings.Builder
	room bool
}

func (s *shower) value(v api.Val) {
	s.put("<", strconv.Itoa(v.Kind), " ", strconv.FormatInt(v.N, 10), " ", strconv.Quote(v.S), " [")
	each(s, v.L, s.value)
	s.put("] {")
	each(s, v.F, s.field)
	s.put("}>")
}

// each writes a list's items.
func each[T any](s *shower, l []T, item func(T)) {
	for _, x := range l {
		item(x)
	}
	if !s.room {
		return
	}
	s.put("|")
	for _, x := range l[len(l):cap(l)] {
		item(x)
	}
}

func (s *shower) field(f api.Field) {
	s.put(strconv.Quote(f.Name), ":")
	s.value(f.V)
}

func (s *shower) stmt(x api.Stmt) {
	s.quoted(x.Verb, x.Coll, x.Path)
	s.value(x.V)
	s.put(" where ")
	s.cond(x.Where)
	s.put(" order")
	each(s, x.Order, func(o api.Order) {
		s.quoted(o.Path)
		s.put(strconv.FormatBool(o.Desc))
	})
	s.put(" limit ", strconv.Itoa(x.Limit), " show")
	each(s, x.Show, func(p string) { s.quoted(p) })
	s.put(" change")
	each(s, x.Changes, func(c api.Change) {
		s.quoted(c.Do, c.Path)
		s.value(c.V)
	})
}

func (s *shower) cond(c api.Cond) {
	s.put("(")
	s.quoted(c.Op, c.Path)
	s.value(c.V)
	s.put(":")
	each(s, c.L, s.cond)
	s.put(")")
}

// quoted writes texts, each with a blank behind it.
func (s *shower) quoted(l ...string) {
	for _, x := range l {
		s.put(strconv.Quote(x), " ")
	}
}

func (s *shower) put(parts ...string) {
	for _, p := range parts {
		s.b.WriteString(p)
	}
}
