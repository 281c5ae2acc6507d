package sample

import (
	"strconv"
	"strings"

	"tidemark/api"
)

// most is how much of a text Cut leaves.
const most = 200

// Show tells all of a value; nil and an empty list alike.
func Show(v api.Val) string {
	s := shower{}
	s.value(v)
	return s.b.String()
}

// ShowRoom tells all of a value, the spare room of its lists too.
func ShowRoom(v api.Val) string {
	s := shower{room: true}
	s.value(v)
	return s.b.String()
}

// Short is the beginning of what Show tells.
func Short(v api.Val) string { return Cut(Show(v)) }

// Cut is the beginning of a text that is long.
func Cut(s string) string {
	if len(s) > most {
		return s[:most] + "..."
	}
	return s
}

// shower writes values, with the spare room of their lists or without it.
type shower struct {
	b    strings.Builder
	room bool
}

func (s *shower) value(v api.Val) {
	s.put("<", strconv.Itoa(v.Kind), " ", strconv.FormatInt(v.N, 10), " ", strconv.Quote(v.S), " [")
	each(s, v.L, s.value)
	s.put("] {")
	each(s, v.F, s.field)
	s.put("}>")
}

// each writes a list's items.
func each[T any](s *shower, l []T, item func(T)) {
	for _, x := range l {
		item(x)
	}
	if !s.room {
		return
	}
	s.put("|")
	for _, x := range l[len(l):cap(l)] {
		item(x)
	}
}

func (s *shower) field(f api.Field) {
	s.put(strconv.Quote(f.Name), ":")
	s.value(f.V)
}

func (s *shower) put(parts ...string) {
	for _, p := range parts {
		s.b.WriteString(p)
	}
}
