package fresh_test

import (
	"testing"

	"tidemark/api"
	"tidemark/fresh"
	"tidemark/sample"
)

// values are good ones, bad ones, and one that has all parts.
func values() []api.Val {
	l := append(sample.Nested(), api.Val{}, sample.DeepLists(1<<16), sample.DeepDocs(1<<16))
	for _, f := range sample.Bad() {
		l = append(l, f.V)
	}
	return append(l, api.Val{Kind: 9, N: -5, S: "\xff", L: []api.Val{{Kind: 8}}, F: []api.Field{{Name: "\xff", V: sample.Nulls(2)}}})
}

// R4: a copy tells the same, shares no memory, and has no spare room that it shares.
func TestValue(t *testing.T) {
	for _, v := range values() {
		in := sample.WithRoom(v)
		was := sample.ShowRoom(in)
		a, b := fresh.Value(in), fresh.Value(in)
		if sample.Show(a) != sample.Show(v) || sample.ShowRoom(in) != was {
			t.Errorf("%s: %s", sample.Short(v), sample.Short(a))
		}
		if !sample.Apart([]api.Val{in, a, b}) {
			t.Errorf("%s: the copy shares memory", sample.Short(v))
		}
	}
}
