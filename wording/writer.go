package wording

import (
	"tidemark/api"
	"tidemark/naming"
	"tidemark/path"
	"tidemark/words"
)

// writer puts tokens one behind the other.
type writer struct{ l []api.Token }

// tooMany is thrown where there are more tokens than any text has.
type tooMany struct{}

// put writes tokens.
func (w *writer) put(l ...api.Token) {
	w.l = append(w.l, l...)
	// Each has a byte at least, so that no text of more of them will do. A statement that is endless, since a list of it holds itself, comes to an end here.
	if len(w.l) > api.MaxText {
		panic(tooMany{})
	}
}

// stmt writes each part that x has, whether its verb may have it or not.
func (w *writer) stmt(x api.Stmt) {
	w.put(words.Word(x.Verb), words.Word(x.Coll))
	w.path(x.Path)
	w.value(x.V)
	w.where(x.Where)
	w.order(x.Order)
	w.limit(x.Limit)
	w.show(x.Show)
	list(w, x.Changes, w.change)
}

// list writes the items of l with `,` between.
func list[T any](w *writer, l []T, item func(T)) {
	for i, x := range l {
		if i > 0 {
			w.put(words.Sign(","))
		}
		item(x)
	}
}

// path writes the path p; nothing, if it is none.
func (w *writer) path(p string) {
	steps, _ := path.Steps(p)
	for i, s := range steps {
		if i > 0 {
			w.put(words.Sign("."))
		}
		if n, ok := naming.Place(s); ok {
			w.put(number(int64(n)))
		} else {
			w.put(words.Word(s))
		}
	}
}

func (w *writer) where(c api.Cond) {
	if c.Op == "" {
		return
	}
	w.put(words.Word(words.Where))
	w.cond(c)
}

func (w *writer) order(l []api.Order) {
	if len(l) == 0 {
		return
	}
	w.put(words.Word(words.Order), words.Word(words.By))
	list(w, l, w.by)
}

func (w *writer) by(o api.Order) {
	w.path(o.Path)
	if o.Desc {
		w.put(words.Word(words.Desc))
	}
}

func (w *writer) limit(n int) {
	if n != 0 {
		w.put(words.Word(words.Limit), number(int64(n)))
	}
}

func (w *writer) show(l []string) {
	if len(l) == 0 {
		return
	}
	w.put(words.Word(words.Show))
	list(w, l, w.path)
}

func (w *writer) change(c api.Change) {
	w.put(words.Word(c.Do))
	w.path(c.Path)
	if c.Do == words.Set {
		w.put(words.Sign("="))
	}
	w.value(c.V)
}

func (w *writer) cond(c api.Cond) {
	switch c.Op {
	case words.Or, words.And:
		for i, x := range c.L {
			if i > 0 {
				w.put(words.Word(c.Op))
			}
			w.part(c.Op, x)
		}
	case words.Not:
		w.put(words.Word(words.Not))
		for _, x := range c.L {
			w.part(words.Not, x)
		}
	default:
		w.test(c)
	}
}

// part writes a part of a condition of that Op, in parentheses where it would be read as something else.
func (w *writer) part(op string, c api.Cond) {
	joined := c.Op == words.Or || c.Op == words.And
	if !joined || op == words.Or && c.Op == words.And {
		w.cond(c)
		return
	}
	w.put(words.Sign("("))
	w.cond(c)
	w.put(words.Sign(")"))
}

func (w *writer) test(c api.Cond) {
	w.path(c.Path)
	if c.Op == words.Exists || c.Op == words.In {
		w.put(words.Word(c.Op))
	} else {
		w.put(words.Sign(c.Op))
	}
	w.value(c.V)
}

// value writes the value v; nothing, if it is of no kind.
func (w *writer) value(v api.Val) {
	switch v.Kind {
	case api.Null:
		w.put(words.Word(words.Null))
	case api.Bool:
		w.put(words.Word(truth(v.N)))
	case api.Int:
		w.put(number(v.N))
	case api.Text:
		w.put(quoted(v.S))
	case api.List:
		w.put(words.Sign("["))
		list(w, v.L, w.value)
		w.put(words.Sign("]"))
	case api.Doc:
		w.put(words.Sign("{"))
		list(w, v.F, w.field)
		w.put(words.Sign("}"))
	}
}

func number(n int64) api.Token { return api.Token{Kind: api.Number, N: n} }

func quoted(s string) api.Token { return api.Token{Kind: api.Quoted, S: s} }

func truth(n int64) string {
	if n == 0 {
		return words.False
	}
	return words.True
}

func (w *writer) field(f api.Field) {
	w.put(quoted(f.Name), words.Sign(":"))
	w.value(f.V)
}
