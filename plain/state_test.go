package plain_test

import (
	"hash/fnv"
	"math/rand"
	"testing"

	"tidemark/api"
	"tidemark/codec"
	"tidemark/plain"
	"tidemark/sample"
)

// states are states that statements lead to, no two the same.
func states(t *testing.T) []api.State {
	t.Helper()
	l := []api.State{{}}
	for _, text := range []string{
		"make a", "make b", "make a; make b", "make aa", "make a; index a x", "make a; index a y", "make a; index a x; index a y", "make a; make b; index b x", "make a; index a x; make b",
		`make a; insert a {"id":1}`, `make a; insert a {"id":2}`, `make a; insert a {"id":1}; insert a {"id":2}`, `make a; insert a {"id":"1"}`, `make a; insert a {"id":1}; make b`, `make a; make b; insert b {"id":1}`, `make a; index a x; insert a {"id":1}`,
		`make a; insert a {"id":1,"x":1}`, `make a; insert a {"id":1,"x":2}`, `make a; insert a {"id":1,"y":1}`, `make a; insert a {"id":1,"x":"1"}`, `make a; insert a {"id":1,"x":true}`, `make a; insert a {"id":1,"x":null}`, `make a; insert a {"id":1,"x":[]}`, `make a; insert a {"id":1,"x":{}}`, `make a; insert a {"id":1,"x":[1]}`, `make a; insert a {"id":1,"x":[1,{"y":0}]}`, `make a; insert a {"id":1,"x":[1,{"y":false}]}`, `make a; insert a {"id":1,"x":[1,{"z":0}]}`,
	} {
		l = append(l, after(t, text))
	}
	return l
}

// P19.2: states are equal just to themselves; they differ in one name, one document, one field's value, one path alone.
func TestEqual(t *testing.T) {
	l := states(t)
	for i, a := range l {
		for k, b := range l {
			if plain.Equal(a, b) != (i == k) || plain.Equal(sample.StateWithRoom(a), b) != (i == k) {
				t.Errorf("%s and %s: %v", toldState(a), toldState(b), plain.Equal(a, b))
			}
			if (plain.Hash(a) == plain.Hash(b)) != (i == k) {
				t.Errorf("the hashes of %s and %s: %d, %d", toldState(a), toldState(b), plain.Hash(a), plain.Hash(b))
			}
		}
	}
	// What leads to one state is no part of it.
	for _, text := range []string{`make b; make a; drop b; index a y; index a x; unindex a y; insert a {"id":2}; insert a {"x":1,"id":1}; delete a where id = 2; update a add x 1`, `make a; insert a {"id":1}; replace a {"id":1,"x":1}; index a x; update a set x = 2`} {
		a, b := after(t, text), after(t, `make a; index a x; insert a {"id":1,"x":2}`)
		if !plain.Equal(a, b) || plain.Hash(a) != plain.Hash(b) {
			t.Errorf("%s and %s", toldState(a), toldState(b))
		}
	}
}

// P19.2: any states are equal just if they tell the same, be they states that Do tells or not; nil and an empty list are one.
func TestEqualOfAny(t *testing.T) {
	v, w := document(number(1)), document(number(2))
	l := []api.State{
		{}, {Colls: []api.Coll{{}}}, {Colls: []api.Coll{{}, {}}}, {Colls: []api.Coll{{Name: "b"}, {Name: "a"}}}, {Colls: []api.Coll{{Name: "a"}, {Name: "b"}}}, {Colls: []api.Coll{{Indexes: []string{""}}}}, {Colls: []api.Coll{{Indexes: []string{"b", "a"}}}}, {Colls: []api.Coll{{Indexes: []string{"a", "b"}}}},
		{Colls: []api.Coll{{Docs: []api.Val{{}}}}}, {Colls: []api.Coll{{Docs: []api.Val{{Kind: 9}}}}}, {Colls: []api.Coll{{Docs: []api.Val{{N: 1}}}}}, {Colls: []api.Coll{{Docs: []api.Val{{S: "a"}}}}}, {Colls: []api.Coll{{Docs: []api.Val{{L: []api.Val{{}}}}}}}, {Colls: []api.Coll{{Docs: []api.Val{{F: []api.Field{{}}}}}}},
		{Colls: []api.Coll{{Docs: []api.Val{v, w}}}}, {Colls: []api.Coll{{Docs: []api.Val{w, v}}}}, {Colls: []api.Coll{{Docs: []api.Val{v}}, {Docs: []api.Val{w}}}}, {Colls: []api.Coll{{Docs: []api.Val{sample.DeepLists(1 << 16)}}}}, {Colls: []api.Coll{{Docs: []api.Val{sample.DeepLists(1<<16 - 1)}}}}, {Colls: make([]api.Coll, 1<<16)},
	}
	var rooms []api.State
	for _, a := range l {
		rooms = append(rooms, sample.StateWithRoom(a))
	}
	for i, a := range l {
		for k, b := range rooms {
			if plain.Equal(a, b) != (i == k) {
				t.Errorf("%d and %d: %v", i, k, i != k)
			}
		}
	}
	empty := api.State{Colls: []api.Coll{{Docs: []api.Val{}, Indexes: []string{}}}}
	if !plain.Equal(empty, l[1]) || !plain.Equal(l[1], empty) || !plain.Equal(api.State{Colls: []api.Coll{}}, api.State{}) || plain.Equal(empty, api.State{}) {
		t.Error("nil and an empty list are not one")
	}
}

// P19.2: the documents of a collection that is there, of one without any, and of one that is not there.
func TestDocs(t *testing.T) {
	s := after(t, `make a; insert a {"id":2,"x":[1]}; insert a {"id":1}; make b; make c; insert c {"id":"c"}`)
	for coll, want := range map[string]string{"a": `true {"id":1} {"id":2,"x":[1]}`, "b": "true", "c": `true {"id":"c"}`, "": "false", "A": "false", "aa": "false", "d": "false", "bb": "false", "\xff": "false"} {
		docs, ok := plain.Docs(s, coll)
		got := map[bool]string{true: "true", false: "false"}[ok] + told(api.Reply{Docs: docs})[1:]
		is(t, "Docs of "+coll, got, want)
	}
	if docs, ok := plain.Docs(api.State{}, "a"); ok || len(docs) > 0 {
		t.Error("Docs of the empty state")
	}
	docs, ok := plain.Docs(many(t, 200), "a")
	if !ok || len(docs) != 200 {
		t.Errorf("of 200 documents: %d, %v", len(docs), ok)
	}
}

// hashOf is the hash of bytes that are listed by hand.
func hashOf(parts ...any) uint64 {
	f := fnv.New64a()
	f.Write(sample.Raw(nil, parts...))
	return f.Sum64()
}

// P19.2: the hash, over bytes that are listed by hand.
func TestHash(t *testing.T) {
	for text, want := range map[string]uint64{
		"make a":                        hashOf("a", 0, 1),
		"make a; make bc":               hashOf("a", 0, 1, "bc", 0, 1),
		"make b; make a; index a x.0":   hashOf("a", 0, "x.0", 0, 1, "b", 0, 1),
		"make a; index a y; index a x":  hashOf("a", 0, "x", 0, "y", 0, 1),
		`make a; insert a {"id":-1}`:    hashOf("a", 0, 6, 1, 2, "id", 3, 1, 0, 1),
		`make a; insert a {"id":"k\n"}`: hashOf("a", 0, 6, 1, 2, "id", 4, 2, "k\n", 0, 1),
		`make a; insert a {"id":150}`:   hashOf("a", 0, 6, 1, 2, "id", 3, 172, 2, 0, 1),
		`make a; insert a {"x":[1,{}, false],"id":2}; insert a {"y":{"z":null},"id":1}; index a x; index a y; make b`: hashOf("a", 0, 6, 2, 2, "id", 3, 2, 1, "y", 6, 1, 1, "z", 1, 0, 6, 2, 2, "id", 3, 4, 1, "x", 5, 3, 3, 2, 6, 0, 2, 0, 0, "x", 0, "y", 0, 1, "b", 0, 1),
	} {
		s := after(t, text)
		if h := plain.Hash(s); h != want || plain.Hash(sample.StateWithRoom(s)) != want {
			t.Errorf("Hash of %s: %d, want %d", toldState(s), h, want)
		}
	}
	if h := plain.Hash(api.State{}); h != 14695981039346656037 || h != hashOf() {
		t.Errorf("Hash of the empty state: %d", h)
	}
	if h := plain.Hash(after(t, "make a")); h != 16560571566122272799 {
		t.Errorf("Hash of make a: %d", h)
	}
}

// hashOtherwise is Hash by another hand.
func hashOtherwise(s api.State) uint64 {
	var b []byte
	for _, c := range s.Colls {
		b = append(append(b, c.Name...), 0)
		for _, v := range c.Docs {
			x, _ := codec.Put(v)
			b = append(append(b, x...), 0)
		}
		for _, p := range c.Indexes {
			b = append(append(b, p...), 0)
		}
		b = append(b, 1)
	}
	return hashOf(b)
}

// P19.2: hashes of states by chance.
func TestHashByChance(t *testing.T) {
	r := rand.New(rand.NewSource(1))
	var s api.State
	seen := map[uint64]string{}
	for range 5000 {
		s, _ = plain.Do(s, random(r, s))
		h := plain.Hash(s)
		if h != hashOtherwise(s) {
			t.Fatalf("Hash of %s: %d, want %d", toldState(s), h, hashOtherwise(s))
		}
		if x := seen[h]; x != "" && x != sample.ShowState(s) {
			t.Fatalf("%s and %s have one hash", x, sample.ShowState(s))
		}
		seen[h] = sample.ShowState(s)
	}
	if len(seen) < 500 {
		t.Errorf("%d states", len(seen))
	}
}
