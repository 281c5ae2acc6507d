package parse

import (
	"slices"
	"strconv"
	"strings"

	"tidemark/api"
	"tidemark/path"
	"tidemark/words"
)

// reader goes down through the tokens that are left; a fault that it meets it throws.
type reader struct {
	left   []api.Token // the End is the last one
	within int         // how many `(` and `not` are begun and not yet ended
}

// next is the next token.
func (r *reader) next() api.Token { return r.left[0] }

// sees tells whether the next token is that one.
func (r *reader) sees(t api.Token) bool { return r.next().Kind == t.Kind && r.next().S == t.S }

// skip passes over the next token, if it is that one.
func (r *reader) skip(t api.Token) bool {
	if !r.sees(t) {
		return false
	}
	r.left = r.left[1:]
	return true
}

// need passes over the next token, which must be that one.
func (r *reader) need(t api.Token) {
	if !r.skip(t) {
		panic(wrong(r.next()))
	}
}

// take passes over the next token, which must be of that kind.
func (r *reader) take(kind int) api.Token {
	t := r.next()
	if t.Kind != kind {
		panic(wrong(t))
	}
	r.left = r.left[1:]
	return t
}

// pick passes over the next token, which must be of that kind and one of these.
func (r *reader) pick(kind int, these ...string) string {
	t := r.take(kind)
	if !slices.Contains(these, t.S) {
		panic(wrong(t))
	}
	return t.S
}

// wrong is the fault that t may not stand where it does.
func wrong(t api.Token) fault { return fault{t.At, api.ErrSyntax} }

// row reads one part or some, with that token between each two.
func row[T any](r *reader, between api.Token, part func() T) []T {
	l := []T{part()}
	for r.skip(between) {
		l = append(l, part())
	}
	return l
}

// stmt reads a statement.
func (r *reader) stmt() api.Stmt {
	x := api.Stmt{}
	x.Verb = r.pick(api.Word, words.Make, words.Drop, words.Index, words.Unindex, words.Insert, words.Replace, words.Get, words.Find, words.Count, words.Delete, words.Update)
	x.Coll = r.name()
	switch x.Verb {
	case words.Index, words.Unindex:
		x.Path = r.path()
	case words.Insert, words.Replace, words.Get:
		x.V = r.value()
	case words.Count, words.Delete:
		x.Where = r.where()
	case words.Find:
		x.Where = r.where()
		x.Order = r.order()
		x.Limit = r.limit()
		x.Show = r.show()
	case words.Update:
		x.Where = r.where()
		x.Changes = row(r, words.Sign(","), r.change)
	}
	return x
}

// name reads a collection's name.
func (r *reader) name() string {
	t := r.take(api.Word)
	if len(t.S) > api.MaxName {
		panic(fault{t.At, api.ErrLimit})
	}
	return t.S
}

// path reads a path. Whether it is one is known at its end, but told at its beginning.
func (r *reader) path() string {
	first := r.next()
	p := strings.Join(row(r, words.Sign("."), r.step), ".")
	if _, e := path.Steps(p); e != api.OK {
		panic(fault{first.At, e})
	}
	return p
}

func (r *reader) step() string {
	if r.next().Kind == api.Number {
		return strconv.FormatInt(r.take(api.Number).N, 10)
	}
	return r.take(api.Word).S
}

func (r *reader) where() api.Cond {
	if !r.skip(words.Word(words.Where)) {
		return api.Cond{}
	}
	return r.cond()
}

func (r *reader) order() []api.Order {
	if !r.skip(words.Word(words.Order)) {
		return nil
	}
	r.need(words.Word(words.By))
	return row(r, words.Sign(","), r.by)
}

func (r *reader) by() api.Order {
	return api.Order{Path: r.path(), Desc: r.skip(words.Word(words.Desc))}
}

func (r *reader) limit() int {
	if !r.skip(words.Word(words.Limit)) {
		return 0
	}
	return int(r.take(api.Number).N)
}

func (r *reader) show() []string {
	if !r.skip(words.Word(words.Show)) {
		return nil
	}
	return row(r, words.Sign(","), r.path)
}

func (r *reader) change() api.Change {
	c := api.Change{}
	c.Do = r.pick(api.Word, words.Set, words.Unset, words.Push, words.Add)
	c.Path = r.path()
	switch c.Do {
	case words.Set:
		r.need(words.Sign("="))
		c.V = r.value()
	case words.Push:
		c.V = r.value()
	case words.Add:
		c.V = api.Val{Kind: api.Int, N: r.take(api.Number).N}
	}
	return c
}
