package parse

import (
	"tidemark/api"
	"tidemark/naming"
	"tidemark/path"
	"tidemark/words"
)

// writer puts tokens one behind the other.
type writer struct{ l []api.Token }

// tokens are those of the statement x: of each part that it has, whether its verb may have it or not.
func tokens(x api.Stmt) []api.Token {
	w := writer{}
	w.put(word(x.Verb), word(x.Coll))
	w.path(x.Path)
	w.value(x.V)
	w.where(x.Where)
	w.order(x.Order)
	w.limit(x.Limit)
	w.show(x.Show)
	list(&w, x.Changes, w.change)
	return w.l
}

// put writes tokens.
func (w *writer) put(l ...api.Token) {
	w.l = append(w.l, l...)
	// Each has a byte at least, so that no text of more of them will do. A statement that is endless, since a list of it holds itself, comes to an end here.
	if len(w.l) > api.MaxText {
		panic(fault{e: api.ErrBig})
	}
}

// list writes the items of l with `,` between.
func list[T any](w *writer, l []T, item func(T)) {
	for i, x := range l {
		if i > 0 {
			w.put(sign(","))
		}
		item(x)
	}
}

// path writes the path p; nothing, if it is none.
func (w *writer) path(p string) {
	steps, _ := path.Steps(p)
	for i, s := range steps {
		if i > 0 {
			w.put(sign("."))
		}
		if n, ok := naming.Place(s); ok {
			w.put(number(int64(n)))
		} else {
			w.put(word(s))
		}
	}
}

func (w *writer) where(c api.Cond) {
	if c.Op == "" {
		return
	}
	w.put(word(words.Where))
	w.cond(c)
}

func (w *writer) order(l []api.Order) {
	if len(l) == 0 {
		return
	}
	w.put(word(words.Order), word(words.By))
	list(w, l, w.by)
}

func (w *writer) by(o api.Order) {
	w.path(o.Path)
	if o.Desc {
		w.put(word(words.Desc))
	}
}

func (w *writer) limit(n int) {
	if n != 0 {
		w.put(word(words.Limit), number(int64(n)))
	}
}

func (w *writer) show(l []string) {
	if len(l) == 0 {
		return
	}
	w.put(word(words.Show))
	list(w, l, w.path)
}

func (w *writer) change(c api.Change) {
	w.put(word(c.Do))
	w.path(c.Path)
	if c.Do == words.Set {
		w.put(sign("="))
	}
	w.value(c.V)
}

func (w *writer) cond(c api.Cond) {
	switch c.Op {
	case words.Or, words.And:
		for i, x := range c.L {
			if i > 0 {
				w.put(word(c.Op))
			}
			w.part(c.Op, x)
		}
	case words.Not:
		w.put(word(words.Not))
		for _, x := range c.L {
			w.part(words.Not, x)
		}
	default:
		w.test(c)
	}
}

// part writes a part of a condition of that Op, in parentheses where it would be read as something else.
func (w *writer) part(op string, c api.Cond) {
	joined := c.Op == words.Or || c.Op == words.And
	if !joined || op == words.Or && c.Op == words.And {
		w.cond(c)
		return
	}
	w.put(sign("("))
	w.cond(c)
	w.put(sign(")"))
}

func (w *writer) test(c api.Cond) {
	w.path(c.Path)
	if c.Op == words.Exists || c.Op == words.In {
		w.put(word(c.Op))
	} else {
		w.put(sign(c.Op))
	}
	w.value(c.V)
}

// value writes the value v; nothing, if it is of no kind.
func (w *writer) value(v api.Val) {
	switch v.Kind {
	case api.Null:
		w.put(word(words.Null))
	case api.Bool:
		w.put(word(truth(v.N)))
	case api.Int:
		w.put(number(v.N))
	case api.Text:
		w.put(quoted(v.S))
	case api.List:
		w.put(sign("["))
		list(w, v.L, w.value)
		w.put(sign("]"))
	case api.Doc:
		w.put(sign("{"))
		list(w, v.F, w.field)
		w.put(sign("}"))
	}
}

func truth(n int64) string {
	if n == 0 {
		return words.False
	}
	return words.True
}

func (w *writer) field(f api.Field) {
	w.put(quoted(f.Name), sign(":"))
	w.value(f.V)
}
