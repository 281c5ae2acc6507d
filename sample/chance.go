package sample

import "tidemark/api"

// Chance is what a test's random numbers come from.
type Chance interface {
	Intn(n int) int
	Uint64() uint64
}

// Maker makes values and statements by chance.
type Maker struct {
	Chance Chance
	Texts  []string              // what Texts are chosen from
	Names  []string              // what names are chosen from; rising
	Spoil  func(api.Val) api.Val // what is done to each value once it is made; nil: nothing
	Firsts []string              // what paths begin with
	Steps  []string              // what their other steps are chosen from
}

// Value is a value of at most that depth.
func (m Maker) Value(depth int) api.Val {
	v := api.Val{Kind: api.Null + m.Chance.Intn(api.Doc)}
	if depth == 0 {
		v.Kind = api.Null + m.Chance.Intn(api.Text)
	}
	switch v.Kind {
	case api.Bool:
		v.N = int64(m.Chance.Intn(2))
	case api.Int:
		v.N = int64(m.Chance.Uint64()) >> m.Chance.Intn(64)
	case api.Text:
		v.S = m.Texts[m.Chance.Intn(len(m.Texts))]
	case api.List:
		for range m.Chance.Intn(4) {
			v.L = append(v.L, m.Value(depth-1))
		}
	case api.Doc:
		v.F = m.fields(depth - 1)
	}
	if m.Spoil == nil {
		return v
	}
	return m.Spoil(v)
}

// fields are some fields, each name at most once.
func (m Maker) fields(depth int) []api.Field {
	var l []api.Field
	for _, name := range m.Names {
		if m.Chance.Intn(2) == 0 {
			l = append(l, Field(name, m.Value(depth)))
		}
	}
	return l
}
