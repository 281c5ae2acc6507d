package sample

import (
	"strconv"
	"strings"

	"tidemark/api"
	"tidemark/json"
)

// Told is a reply as a script tells it: its error, its number, if it is not 0, its documents.
func Told(r api.Reply) string {
	s := strconv.Itoa(int(r.E))
	if r.N != 0 {
		s += " n " + strconv.Itoa(r.N)
	}
	for _, v := range r.Docs {
		s += " " + JSON(v)
	}
	return s
}

// ToldState is a state: of each collection its name, its indexes and its documents.
func ToldState(s api.State) string {
	var l []string
	for _, c := range s.Colls {
		told := c.Name
		if len(c.Indexes) > 0 {
			told += " (" + strings.Join(c.Indexes, ", ") + ")"
		}
		for _, v := range c.Docs {
			told += " " + JSON(v)
		}
		l = append(l, told)
	}
	return strings.Join(l, "; ")
}

// JSON is the JSON of v, or all of it, if it is not good.
func JSON(v api.Val) string {
	s, e := json.Print(v)
	if e != api.OK {
		return Show(v)
	}
	return s
}

// ShowState tells all of a state; nil and an empty list alike.
func ShowState(s api.State) string {
	w := shower{}
	w.state(s)
	return w.b.String()
}

// ShowStateRoom tells all of a state, the spare room of its lists too.
func ShowStateRoom(s api.State) string {
	w := shower{room: true}
	w.state(s)
	return w.b.String()
}

func (w *shower) state(s api.State) {
	each(w, s.Colls, func(c api.Coll) {
		w.quoted(c.Name)
		w.put("(")
		each(w, c.Indexes, func(p string) { w.quoted(p) })
		w.put(")")
		each(w, c.Docs, w.value)
		w.put(";")
	})
}

// ShowReply tells all of a reply; nil and an empty list alike.
func ShowReply(r api.Reply) string {
	w := shower{}
	w.put(strconv.Itoa(int(r.E)), " n ", strconv.Itoa(r.N))
	each(&w, r.Docs, w.value)
	return w.b.String()
}

// StateWithRoom is s in new memory, with spare room, filled with marks, behind each of its lists.
func StateWithRoom(s api.State) api.State {
	mark := Text("mark")
	s.Colls = roomy(s.Colls, api.Coll{Name: "mark"}, func(c api.Coll) api.Coll {
		c.Name = strings.Clone(c.Name)
		c.Docs = roomy(c.Docs, mark, WithRoom)
		c.Indexes = roomy(c.Indexes, "mark", strings.Clone)
		return c
	})
	return s
}

// AllApart tells so of the lists of values, statements, states, replies and bytes.
func AllApart(l ...any) bool {
	var all lists
	for _, part := range l {
		switch x := part.(type) {
		case api.Val:
			all.value(x)
		case api.Stmt:
			all.stmt(x)
		case api.State:
			all.state(x)
		case api.Reply:
			all.list(x.Docs)
		case []api.Val:
			all.list(x)
		case []byte:
			all.bytes = append(all.bytes, x[:cap(x)])
		default:
			return false
		}
	}
	return all.apart()
}

func (a *lists) list(l []api.Val) { a.value(api.Val{L: l}) }

func (a *lists) state(s api.State) {
	a.colls = append(a.colls, s.Colls[:cap(s.Colls)])
	for _, c := range s.Colls {
		a.list(c.Docs)
		a.shows = append(a.shows, c.Indexes[:cap(c.Indexes)])
	}
}
