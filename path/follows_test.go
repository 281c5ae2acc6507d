package path_test

import (
	"math/rand"
	"strings"
	"testing"

	"tidemark/api"
	"tidemark/path"
	"tidemark/value"
)

// P6.3: Get of what Set told is x.
func TestGetOfSet(t *testing.T) {
	for _, x := range []string{"null", "7", `"q"`, "[1,[2]]", `{"r":{}}`} {
		for _, p := range []string{"a", "b", "c", "d.e", "a.0", "a.1", "a.1.b", "a.1.c.d", "zz.y.x"} {
			v, e := path.Set(of(t, example), p, of(t, x))
			if e != api.OK {
				t.Fatalf("Set %s: %d", p, int(e))
			}
			gets(t, told(v, e), p, x)
		}
	}
}

// P6.3: Unset leaves nothing there, if the last step is a name; if it is a place, the next one moves up.
func TestGetOfUnset(t *testing.T) {
	for _, p := range []string{"a", "c", "a.1.b"} {
		v, e := path.Unset(of(t, example), p)
		gets(t, told(v, e), p, "")
	}
	v, e := path.Unset(of(t, example), "a.0")
	gets(t, told(v, e), "a.0", `{"b":2}`)
	gets(t, told(v, e), "a.1", "")
	v, e = path.Unset(of(t, example), "a.1")
	gets(t, told(v, e), "a.1", "")
	gets(t, told(v, e), "a.0", "1")
}

// otherwise is what the calls tell of a good v, a path of these steps, and a good x, by another hand.
func otherwise(v api.Val, steps []string, x api.Val, n int64) (set, unset, push, add string) {
	good := func(r *tree, e api.Errno) string {
		if e != api.OK {
			return told(api.Val{}, e)
		}
		w := r.value()
		if e := value.Good(w); e != api.OK {
			return told(api.Val{}, e)
		}
		return told(w, api.OK)
	}
	a, b := planted(v), planted(v)
	set = good(a, a.set(steps, x))
	b.unset(steps)
	unset = good(b, api.OK)
	c, d := planted(v), planted(v)
	end, sum := c.end(steps), d.end(steps)
	if end == nil {
		return set, unset, told(api.Val{}, api.ErrName), told(api.Val{}, api.ErrName)
	}
	push, add = told(api.Val{}, api.ErrKind), told(api.Val{}, api.ErrKind)
	if end.leaf.Kind == api.List {
		end.list = append(end.list, planted(x))
		push = good(c, api.OK)
	}
	if sum.leaf.Kind == api.Int {
		was := sum.leaf.N
		sum.leaf.N += n
		add = good(d, api.OK)
		if (was < 0) == (n < 0) && (was < 0) != (sum.leaf.N < 0) {
			add = told(api.Val{}, api.ErrNumber)
		}
	}
	return set, unset, push, add
}

// P6.1, P6.2, P6.3: values and paths by chance, held against another hand; what lies elsewhere stays.
func TestByChance(t *testing.T) {
	r := rand.New(rand.NewSource(2))
	led := 0
	for range 30000 {
		v, x := full(r, 4), random(r, r.Intn(6))
		p, n := way(r, v), int64(r.Uint64())>>r.Intn(64)
		steps, ok := stepsOf(p)
		if !ok {
			isNone(t, p)
			continue
		}
		was := ""
		if end := planted(v).end(steps); end != nil {
			was = told(end.value(), api.OK)
			led++
		}
		text := told(v, api.OK)
		gets(t, text, p, was)
		set, unset, push, add := otherwise(v, steps, x, n)
		tells(t, "Set("+text+", "+p+")", told(path.Set(v, p, x)), set)
		tells(t, "Unset("+text+", "+p+")", told(path.Unset(v, p)), unset)
		tells(t, "Push("+text+", "+p+")", told(path.Push(v, p, x)), push)
		tells(t, "Add("+text+", "+p+")", told(path.Add(v, p, n)), add)
		if strings.HasPrefix(set, "{") || strings.HasPrefix(set, "[") {
			gets(t, set, p, told(x, api.OK))
		}
	}
	if led < 5000 {
		t.Errorf("%d paths led somewhere", led)
	}
}
