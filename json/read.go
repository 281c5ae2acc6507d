package json

import (
	"strconv"
	"strings"

	"tidemark/api"
	"tidemark/quoted"
	"tidemark/value"
)

const (
	blank      = " \t\n\r"
	digits     = "0123456789"
	beginnings = `ntf"[{-` + digits // of a value
)

// reader goes through s from a place on; where it meets a fault, it stays at the fault's place.
type reader struct {
	s      string
	at     int
	within []open // the outermost first
	big    bool   // something was read that has more than MaxBytes bytes
}

// value reads a value, with blanks ahead of it. The Lists and Docs that it stands in are kept in a list, so that the steps can go from any part to the next.
func (r *reader) value() (api.Val, api.Errno) {
	var v api.Val
	var e api.Errno
begin:
	r.blanks()
	e = r.mayBegin()
	if e != api.OK {
		goto fault
	}
	if r.nextIs("[{") {
		goto down
	}
	v, e = r.single()
	if e != api.OK {
		goto fault
	}
whole:
	v = r.kept(v)
	if len(r.within) == 0 {
		return v, api.OK
	}
	r.last().add(v)
	r.blanks()
	switch r.next() {
	case ',':
		r.at++
		goto part
	case r.last().end():
		goto up
	}
	e = api.ErrSyntax
	goto fault
down:
	e = r.down()
	if e != api.OK {
		goto fault
	}
	if r.next() == r.last().end() {
		goto up
	}
part:
	if r.last().v.Kind == api.List {
		goto begin
	}
	e = r.name()
	if e != api.OK {
		goto fault
	}
	goto begin
up:
	v = r.up()
	goto whole
fault:
	return api.Val{}, e
}

// mayBegin tells what speaks against a value that begins here. The first byte decides alone whether it is one too many, whatever stands behind it.
func (r *reader) mayBegin() api.Errno {
	switch {
	case !r.nextIs(beginnings):
		return api.ErrSyntax
	case len(r.within) > 0 && len(r.last().v.L) == api.MaxParts:
		return api.ErrLimit
	}
	return api.OK
}

// down goes into a List or a Doc, as far as its first part or its end.
func (r *reader) down() api.Errno {
	if len(r.within) == api.MaxDepth {
		return api.ErrDeep
	}
	r.within = append(r.within, opened(r.next()))
	r.at++
	r.blanks()
	return api.OK
}

// up goes out of a List or a Doc, and tells it.
func (r *reader) up() api.Val {
	v := r.last().v
	r.within = r.within[:len(r.within)-1]
	r.at++
	return v
}

// last is the innermost of what is open.
func (r *reader) last() *open { return &r.within[len(r.within)-1] }

// kept tells v, a Doc's fields in order. One that is too big makes all it stands in too big: it is not kept, and what is left is read for its faults alone.
func (r *reader) kept(v api.Val) api.Val {
	var e api.Errno
	if v.Kind == api.Doc {
		v, e = value.Make(v.F)
	} else {
		e = value.Good(v)
	}
	// Every other fault was told where it was met.
	if e == api.ErrBig {
		r.big = true
		return api.Val{Kind: api.Null}
	}
	return v
}

// name reads a field's name, as far as its value.
func (r *reader) name() api.Errno {
	r.blanks()
	if r.next() != '"' {
		return api.ErrSyntax
	}
	from := r.at
	s, e := r.text()
	if e == api.OK {
		e = r.last().mayName(s)
	}
	if e != api.OK {
		r.at = from
		return e
	}
	r.last().name = s
	r.blanks()
	if r.next() != ':' {
		return api.ErrSyntax
	}
	r.at++
	return api.OK
}

// single reads a value that is neither List nor Doc.
func (r *reader) single() (api.Val, api.Errno) {
	switch r.next() {
	case 'n':
		return r.word(null, api.Val{Kind: api.Null})
	case 't':
		return r.word(truth, api.Val{Kind: api.Bool, N: 1})
	case 'f':
		return r.word(lie, api.Val{Kind: api.Bool})
	case '"':
		s, e := r.text()
		return api.Val{Kind: api.Text, S: s}, e
	}
	n, e := r.number()
	return api.Val{Kind: api.Int, N: n}, e
}

// word reads the word that stands for v.
func (r *reader) word(s string, v api.Val) (api.Val, api.Errno) {
	if !strings.HasPrefix(r.s[r.at:], s) {
		return api.Val{}, api.ErrSyntax
	}
	r.at += len(s)
	return v, api.OK
}

// number reads an Int.
func (r *reader) number() (int64, api.Errno) {
	var s string
	var n int64
	var err error
	from := r.at
	if r.next() == '-' {
		r.at++
	}
	if !r.nextIs(digits) {
		return 0, api.ErrSyntax
	}
digit:
	r.at++
	if r.nextIs(digits) {
		goto digit
	}
	if r.nextIs(".eE") {
		goto none
	}
	s = r.s[from:r.at]
	n, err = strconv.ParseInt(s, 10, 64)
	// An Int has one text: with noughts ahead, or as -0, it has another one than it is told by.
	if err == nil && strconv.FormatInt(n, 10) == s {
		return n, api.OK
	}
none:
	r.at = from
	return 0, api.ErrNumber
}

// text reads a quoted text.
func (r *reader) text() (string, api.Errno) {
	s, n, e := quoted.Take(r.s[r.at:])
	r.at += n
	return s, e
}

// blanks goes over blanks.
func (r *reader) blanks() {
	for r.nextIs(blank) {
		r.at++
	}
}

// nextIs tells whether the byte that is to be read is one of these.
func (r *reader) nextIs(these string) bool { return strings.IndexByte(these, r.next()) >= 0 }

// next tells the byte that is to be read: at the end a 0, which may stand nowhere.
func (r *reader) next() byte {
	if r.at == len(r.s) {
		return 0
	}
	return r.s[r.at]
}
