package json

import "tidemark/api"

// open is a List or a Doc whose end is still to be read.
type open struct {
	v    api.Val
	name string // of the field whose value is being read
}

// opened is what begins with that byte.
func opened(c byte) open {
	if c == '[' {
		return open{v: api.Val{Kind: api.List}}
	}
	return open{v: api.Val{Kind: api.Doc}}
}

// end is the byte with which it ends.
func (o *open) end() byte {
	if o.v.Kind == api.List {
		return ']'
	}
	return '}'
}

// add puts v behind the parts that were read already.
func (o *open) add(v api.Val) {
	if o.v.Kind == api.List {
		o.v.L = append(o.v.L, v)
		return
	}
	o.v.F = append(o.v.F, api.Field{Name: o.name, V: v})
}

// mayName tells what speaks against a field of that name.
func (o *open) mayName(name string) api.Errno {
	if len(o.v.F) == api.MaxParts || name == "" || len(name) > api.MaxName {
		return api.ErrLimit
	}
	for _, f := range o.v.F {
		if f.Name == name {
			return api.ErrDup
		}
	}
	return api.OK
}
