package key

import (
	"tidemark/api"
	"tidemark/value"
)

// longest is as long as no good value's key: the most it has to one byte of the value is five, for an Int in a List.
const longest = 5 * api.MaxBytes

// none is what is read behind the last byte.
const none = -1

// reader goes through bytes from their beginning on.
type reader struct{ b []byte }

// open is a List or a Doc whose end is still to be read.
type open struct {
	v    api.Val
	name string // of the field that is being read
}

// first tells the good value with whose key b begins, and how long that is.
func first(b []byte) (api.Val, int, bool) {
	// A key that goes on beyond that is no good value's: so it takes little room to refuse it, however long it is.
	r := reader{b[:min(len(b), longest)]}
	all := len(r.b)
	v, ok := r.value()
	if !ok || value.Good(v) != api.OK {
		return api.Val{}, 0, false
	}
	return v, all - len(r.b), true
}

// value reads what has the form of a key, be the value good or not. The Lists and Docs that are not yet at their end stand in a list, the outermost first, so that the steps can go from any part to the next.
func (r *reader) value() (v api.Val, ok bool) {
	var within []open
	var last *open
kind:
	v = api.Val{Kind: r.kind()}
	switch v.Kind {
	case api.Null:
		goto whole
	case api.Bool:
		goto truth
	case api.Int:
		goto number
	case api.Text:
		goto text
	case api.List, api.Doc:
		goto begin
	}
	goto fault
truth:
	// A byte above 1, and none at all, make no good Bool.
	v.N = int64(r.one())
	goto whole
number:
	if v.N, ok = r.number(); ok {
		goto whole
	}
	goto fault
text:
	if v.S, ok = r.letters(); ok {
		goto whole
	}
	goto fault
begin:
	within = append(within, open{v: v})
next:
	last = &within[len(within)-1]
	switch r.one() {
	case end:
		v, within = last.v, within[:len(within)-1]
		goto whole
	case part:
		if last.v.Kind == api.List {
			goto kind
		}
		if last.name, ok = r.letters(); ok {
			goto kind
		}
	}
	goto fault
whole:
	if len(within) == 0 {
		return v, true
	}
	within[len(within)-1].add(v)
	goto next
fault:
	return api.Val{}, false
}

// add puts v behind the parts that were read already.
func (o *open) add(v api.Val) {
	if o.v.Kind == api.List {
		o.v.L = append(o.v.L, v)
		return
	}
	o.v.F = append(o.v.F, api.Field{Name: o.name, V: v})
}

// kind reads the byte of a Kind; 0 if it is none's.
func (r *reader) kind() int {
	c := r.one()
	if c%perKind != 0 {
		return 0
	}
	return c / perKind
}

// number reads an Int.
func (r *reader) number() (int64, bool) {
	if len(r.b) < 8 {
		return 0, false
	}
	var n uint64
	for range 8 {
		n = n<<8 | uint64(r.one())
	}
	return int64(n) + least, true
}

// letters reads a text or a name.
func (r *reader) letters() (string, bool) {
	var s []byte
	var c int
letter:
	c = r.one()
	switch c {
	case 0:
		goto zero
	case none:
		return "", false
	}
	s = append(s, byte(c))
	goto letter
zero:
	switch r.one() {
	case end:
		return string(s), true
	case nought:
		s = append(s, 0)
		goto letter
	}
	return "", false
}

// one reads a byte.
func (r *reader) one() int {
	if len(r.b) == 0 {
		return none
	}
	c := r.b[0]
	r.b = r.b[1:]
	return int(c)
}
