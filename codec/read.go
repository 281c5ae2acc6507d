package codec

import (
	"bytes"
	"unicode/utf8"

	"tidemark/api"
)

// reader goes through b from a place on; a fault that it meets there it throws.
type reader struct {
	b  []byte
	at int
}

// open is a List or a Doc of which parts are still to be read.
type open struct {
	v    api.Val
	left int
	name []byte // the last one that was read of a Doc
}

// thrown tells the fault that was thrown.
func thrown(x any) api.Errno {
	if e, ok := x.(api.Errno); ok {
		return e
	}
	// No reader threw it: told as an error of the bytes, it would hide a fault of the program.
	panic(x)
}

// reply reads a reply that is all of the bytes.
func (r *reader) reply() api.Reply {
	e, n, docs := r.number(), r.number(), r.number()
	if e > maxE || n > maxN || docs > api.MaxDocs {
		panic(api.ErrForm)
	}
	reply := api.Reply{E: api.Errno(e), N: int(n)}
	for range docs {
		reply.Docs = append(reply.Docs, r.value())
	}
	if r.at < len(r.b) {
		panic(api.ErrForm)
	}
	return reply
}

// value reads a value of at most MaxBytes bytes.
func (r *reader) value() api.Val {
	limit := r.at + api.MaxBytes
	v := r.valueUpTo(limit)
	if r.at > limit {
		panic(api.ErrBig)
	}
	return v
}

// valueUpTo reads a value, of which it keeps what does not reach beyond the limit: of the rest only the faults are told. The Lists and Docs that are not yet at their end stand in a list, the outermost first, so that the steps can go from any part to the next.
func (r *reader) valueUpTo(limit int) api.Val {
	var v api.Val
	var within []open
	var last *open
kind:
	v = api.Val{Kind: int(r.one())}
	switch v.Kind {
	case api.Null:
		goto whole
	case api.Bool:
		goto truth
	case api.Int:
		goto number
	case api.Text:
		goto text
	case api.List, api.Doc:
		goto begin
	}
	panic(api.ErrForm)
truth:
	v.N = int64(r.one())
	if v.N > 1 {
		panic(api.ErrForm)
	}
	goto whole
number:
	v.N = unfolded(r.number())
	goto whole
text:
	v.S = string(r.text(r.count(0, api.MaxBytes, api.ErrBig)))
	goto whole
begin:
	if len(within) == api.MaxDepth {
		panic(api.ErrDeep)
	}
	within = append(within, open{v: v, left: r.count(0, api.MaxParts, api.ErrLimit)})
part:
	last = &within[len(within)-1]
	if last.left == 0 {
		goto end
	}
	last.left--
	if last.v.Kind == api.Doc {
		last.name = r.name(last.name)
	}
	goto kind
end:
	v, within = last.v, within[:len(within)-1]
whole:
	if len(within) == 0 {
		return v
	}
	if r.at <= limit {
		within[len(within)-1].add(v)
	}
	goto part
}

// add puts v behind the parts that were read already.
func (o *open) add(v api.Val) {
	if o.v.Kind == api.List {
		o.v.L = append(o.v.L, v)
		return
	}
	o.v.F = append(o.v.F, api.Field{Name: string(o.name), V: v})
}

// name reads a field's name, which must be above the one ahead of it; the first one's is empty.
func (r *reader) name(ahead []byte) []byte {
	s := r.text(r.count(1, api.MaxName, api.ErrLimit))
	if bytes.Compare(ahead, s) >= 0 {
		panic(api.ErrForm)
	}
	return s
}

// text reads n bytes that must be UTF-8.
func (r *reader) text(n int) []byte {
	if n > len(r.b)-r.at {
		panic(api.ErrEnd)
	}
	s := r.b[r.at : r.at+n]
	r.at += n
	if !utf8.Valid(s) {
		panic(api.ErrText)
	}
	return s
}

// count reads how many there are of something; e is thrown if they are too few or too many.
func (r *reader) count(least, most uint64, e api.Errno) int {
	n := r.number()
	if n < least || n > most {
		panic(e)
	}
	return int(n)
}

// number reads a varint.
func (r *reader) number() uint64 {
	var n uint64
	var c byte
	var place int
digit:
	c = r.one()
	if place == 63 && c > 1 || place > 0 && c == 0 {
		goto none
	}
	n |= uint64(c&127) << place
	place += 7
	if c >= 128 {
		goto digit
	}
	return n
none:
	panic(api.ErrForm)
}

// one reads a byte.
func (r *reader) one() byte {
	if r.at == len(r.b) {
		panic(api.ErrEnd)
	}
	c := r.b[r.at]
	r.at++
	return c
}
