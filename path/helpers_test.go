package path_test

import (
	"fmt"
	"math/rand"
	"regexp"
	"slices"
	"strings"
	"testing"

	"tidemark/api"
	"tidemark/json"
	"tidemark/path"
	"tidemark/sample"
)

// What the tests are made of, by short names.
var (
	null, number, text, list = sample.Null(), sample.Int, sample.Text, sample.List
	doc, field               = sample.Doc, sample.Field
	letters, show, short     = sample.Letters, sample.Show, sample.Short
)

// of is the value that a text tells.
func of(t *testing.T, s string) api.Val {
	t.Helper()
	v, _, e := json.Parse(s)
	if e != api.OK {
		t.Fatalf("%s is no value", s)
	}
	return v
}

// told is a value, or an error's number, as a text.
func told(v api.Val, e api.Errno) string {
	if e == api.OK {
		s, f := json.Print(v)
		return s + []string{"", " (bad)"}[min(int(f), 1)]
	}
	if show(v) != show(api.Val{}) {
		return fmt.Sprint(int(e), " beside ", show(v))
	}
	return fmt.Sprint(int(e))
}

// tells sees to it that a call told that text, and that an error is told as its number.
func tells(t *testing.T, call, got string, want any) {
	t.Helper()
	if e, ok := want.(api.Errno); ok {
		want = fmt.Sprint(int(e))
	}
	if got != want {
		t.Errorf("%s: %s, want %s", sample.Cut(call), sample.Cut(got), sample.Cut(fmt.Sprint(want)))
	}
}

// sets sees to what Set tells: want is a text or an error. So do the next ones, of other calls.
func sets(t *testing.T, v, p, x string, want any) {
	t.Helper()
	tells(t, "Set("+v+", "+p+", "+x+")", told(path.Set(of(t, v), p, of(t, x))), want)
}

func unsets(t *testing.T, v, p string, want any) {
	t.Helper()
	tells(t, "Unset("+v+", "+p+")", told(path.Unset(of(t, v), p)), want)
}

func pushes(t *testing.T, v, p, x string, want any) {
	t.Helper()
	tells(t, "Push("+v+", "+p+", "+x+")", told(path.Push(of(t, v), p, of(t, x))), want)
}

func adds(t *testing.T, v, p string, n int64, want any) {
	t.Helper()
	tells(t, fmt.Sprintf("Add(%s, %s, %d)", v, p, n), told(path.Add(of(t, v), p, n)), want)
}

// gets sees to it that p leads to that from v; "" is nowhere.
func gets(t *testing.T, v, p, want string) {
	t.Helper()
	x, ok := path.Get(of(t, v), p)
	if !ok && show(x) != show(api.Val{}) {
		t.Errorf("Get(%s, %s): %s beside false", sample.Cut(v), p, short(x))
	}
	got := ""
	if ok {
		got = told(x, api.OK)
	}
	tells(t, "Get("+v+", "+p+")", got, want)
}

// all tells what each call tells of v, p, x and n.
func all(v api.Val, p string, x api.Val, n int64) string {
	a, ok := path.Get(v, p)
	if !ok && show(a) != show(api.Val{}) {
		return "something beside false"
	}
	steps, e := path.Steps(p)
	return fmt.Sprint(show(a), ok, " ", steps, int(e), " ", told(path.Set(v, p, x)), " ", told(path.Unset(v, p)), " ", told(path.Push(v, p, x)), " ", told(path.Add(v, p, n)))
}

// What a path is, by another hand.
const step = `([A-Za-z_][A-Za-z0-9_]{0,23}|[0-9]|[1-9][0-9])`

var paths = regexp.MustCompile(`\A` + step + `(\.` + step + `){0,7}\z`)

// stepsOf is Steps by another hand.
func stepsOf(p string) ([]string, bool) {
	if !paths.MatchString(p) {
		return nil, false
	}
	return strings.Split(p, "."), true
}

// tree is a value by another hand: a Doc is a map, a List a list, and each is reached by a pointer to it.
type tree struct {
	leaf api.Val
	docs map[string]*tree
	list []*tree
}

func planted(v api.Val) *tree {
	r := &tree{leaf: api.Val{Kind: v.Kind, N: v.N, S: v.S}}
	for _, x := range v.L {
		r.list = append(r.list, planted(x))
	}
	if v.Kind == api.Doc {
		r.docs = map[string]*tree{}
	}
	for _, f := range v.F {
		r.docs[f.Name] = planted(f.V)
	}
	return r
}

func (r *tree) value() api.Val {
	v := r.leaf
	for _, x := range r.list {
		v.L = append(v.L, x.value())
	}
	for name, x := range r.docs {
		v.F = append(v.F, field(name, x.value()))
	}
	slices.SortFunc(v.F, func(a, b api.Field) int { return strings.Compare(a.Name, b.Name) })
	return v
}

// down is where one step leads to, by another hand.
func (r *tree) down(step string) (*tree, api.Errno) {
	if step[0] > '9' {
		if r.leaf.Kind != api.Doc {
			return nil, api.ErrKind
		}
		return r.docs[step], api.OK
	}
	n := 0
	fmt.Sscan(step, &n)
	if r.leaf.Kind != api.List {
		return nil, api.ErrKind
	}
	if n >= len(r.list) {
		return nil, api.ErrName
	}
	return r.list[n], api.OK
}

// end is where the steps lead to, by another hand; nil: nowhere.
func (r *tree) end(steps []string) *tree {
	for _, s := range steps {
		next, e := r.down(s)
		if e != api.OK || next == nil {
			return nil
		}
		r = next
	}
	return r
}

// set puts x where the steps lead, by another hand.
func (r *tree) set(steps []string, x api.Val) api.Errno {
	for _, s := range steps {
		next, e := r.down(s)
		if e != api.OK {
			return e
		}
		if next == nil {
			next = planted(doc())
			r.docs[s] = next
		}
		r = next
	}
	*r = *planted(x)
	return api.OK
}

// unset takes out what stands where the steps lead, by another hand.
func (r *tree) unset(steps []string) {
	x := r.end(steps)
	if x == nil {
		return
	}
	r = r.end(steps[:len(steps)-1])
	delete(r.docs, steps[len(steps)-1])
	r.list = slices.DeleteFunc(r.list, func(y *tree) bool { return x == y })
}

// random makes a good value of at most that depth, whose names are steps and others.
func random(r *rand.Rand, depth int) api.Val {
	names := []string{"0", "1", "_", "a", "aa", "b", "c", "\u00e4"}
	return sample.Maker{Chance: r, Texts: []string{"", "a", "0"}, Names: names}.Value(depth)
}

// full makes a value like random's; mostly one that has parts.
func full(r *rand.Rand, depth int) api.Val {
	v := random(r, depth)
	for range 5 {
		if v.Kind < api.List {
			v = random(r, depth)
		}
	}
	return v
}

// way is a path that often leads somewhere within v; at times it is none.
func way(r *rand.Rand, v api.Val) string {
	p := ""
	for p == "" && r.Intn(20) > 0 || r.Intn(3) > 0 {
		step := []string{"a", "b", "q", "0", "1", "2", "_", "10", "00", "a-"}[r.Intn(3+r.Intn(8))]
		if r.Intn(6) > 0 && len(v.F) > 0 {
			f := v.F[r.Intn(len(v.F))]
			step, v = f.Name, f.V
		} else if r.Intn(6) > 0 && len(v.L) > 0 {
			i := r.Intn(len(v.L))
			step, v = fmt.Sprint(i), v.L[i]
		}
		p += "." + step
	}
	return strings.TrimPrefix(p, ".")
}
