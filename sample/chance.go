package sample

import "tidemark/api"

// Chance is what a test's random numbers come from.
type Chance interface {
	Intn(n int) int
	Uint64() uint64
}

// Maker makes values and statements by chance.
type Maker struct {
	Chance Chance
	Texts  []string              // what Texts are chosen from
	Names  []string              // what names are chosen from; rising
	Spoil  func(api.Val) api.Val // what is done to each value once it is made; nil: nothing
	Firsts []string              // what paths begin with
	Steps  []string              // what their other steps are chosen from
}

// Value is a value of at most that depth.
func (m Maker) Value(depth int) api.Val {
	v := api.Val{Kind: api.Null + m.Chance.Intn(api.Doc)}
	if depth == 0 {
		v.Kind = api.Null + m.Chance.Intn(api.Text)
	}
	switch v.Kind {
	case api.Bool:
		v.N = int64(m.Chance.Intn(2))
	case api.Int:
		v.N = int64(m.Chance.Uint64()) >> m.Chance.Intn(64)
	case api.Text:
		v.S = m.Texts[m.Chance.Intn(len(m.Texts))]
	case api.List:
		for range m.Chance.Intn(4) {
			v.L = append(v.L, m.Value(depth-1))
		}
	case api.Doc:
		v.F = m.fields(depth - 1)
	}
	if m.Spoil == nil {
		return v
	}
	return m.Spoil(v)
}

// fields are some fields, each name at most once.
func (m Maker) fields(depth int) []api.Field {
	var l []api.Field
	for _, name := range m.Names {
		if m.Chance.Intn(2) == 0 {
			l = append(l, Field(name, m.Value(depth)))
		}
	}
	return l
}

// Few makes values and statements by chance, of few names and small numbers, so that paths often lead somewhere and values are often the same.
func Few(r Chance) Maker {
	return Maker{
		Chance: r,
		Texts:  []string{"", "a", "ab"},
		Names:  []string{"0", "a", "b", "id", "\u00e4"},
		Firsts: []string{"a", "b", "id", "z", "a", "b"},
		Steps:  []string{"a", "b", "0", "1", "id"},
		Spoil: func(v api.Val) api.Val {
			if v.Kind == api.Int {
				v.N %= 3
			}
			return v
		},
	}
}

// Document is a document by chance, of what Few makes, with one of few ids.
func Document(r Chance) api.Val {
	v := Doc()
	for _, name := range []string{"a", "b"} {
		if r.Intn(4) > 0 {
			v.F = append(v.F, Field(name, Few(r).Value(r.Intn(3))))
		}
	}
	ids := []api.Val{Int(int64(r.Intn(5))), Text(Letters(r.Intn(3)))}
	v.F = append(v.F, Field("id", ids[r.Intn(2)]))
	if r.Intn(3) == 0 {
		v.F = append(v.F, Field("\u00e4", Null()))
	}
	return v
}
