package check_test

import (
	"math/rand"
	"strings"
	"testing"

	"tidemark/api"
	"tidemark/check"
	"tidemark/parse"
	"tidemark/sample"
)

// tells sees to it that Text tells that error of s, and nothing else; without one, what Parse tells.
func tells(t *testing.T, s string, want api.Errno) {
	t.Helper()
	told := api.Stmt{}
	if want == api.OK {
		told, _, _ = parse.Parse(s)
	}
	if x, e := check.Text(s); e != want || show(x) != show(told) {
		t.Errorf("Text(%q): %s, %d, want %s, %d", cut(s), cut(show(x)), int(e), cut(show(told)), int(want))
	}
}

// touches sees to it that a touches b, or does not; and b a.
func touches(t *testing.T, a, b string, want bool) {
	t.Helper()
	if check.Touches(a, b) != want || check.Touches(b, a) != want {
		t.Errorf("Touches of %q and %q: %v, %v, want %v", cut(a), cut(b), check.Touches(a, b), check.Touches(b, a), want)
	}
}

// has sees to it that Id tells that id of v, or that error.
func has(t *testing.T, v, id api.Val, want api.Errno) {
	t.Helper()
	if x, e := check.Id(v); e != want || sample.Show(x) != sample.Show(id) {
		t.Errorf("Id of %s: %s, %d, want %s, %d", short(v), short(x), int(e), short(id), int(want))
	}
}

// The chapter's examples.
func TestExamples(t *testing.T) {
	tells(t, `insert a {"x":1}`, api.ErrKey)
	tells(t, "insert a 5", api.ErrKind)
	tells(t, "index a id.x", api.ErrKey)
	tells(t, "find a limit 65", api.ErrArg)
	tells(t, "find a order by x, x", api.ErrDup)
	tells(t, "update a set b.c = 1, unset b", api.ErrDup)
	touches(t, "a.b", "a", true)
	touches(t, "a", "ab", false)
}

// P16.2: ids of documents.
func TestId(t *testing.T) {
	for _, id := range []api.Val{number(0), number(1), number(-1 << 63), number(1<<63 - 1), text(""), text("a"), text("\u00e4\n"), text(letters(64)), text(strings.Repeat("\u00e4", 32))} {
		has(t, document(id), id, api.OK)
		has(t, doc(field("a", null), field("id", id), field("x", list(id))), id, api.OK)
		has(t, doc(field("Id", null), field("id", id), field("ida", document(null))), id, api.OK)
		// What lies deeper is no field of the document.
		has(t, doc(field("x", document(id))), api.Val{}, api.ErrKey)
		has(t, id, api.Val{}, api.ErrKind)
		has(t, list(document(id)), api.Val{}, api.ErrKind)
	}
}

// P16.2: every kind of value that is no document, and of value that is no id.
func TestNoId(t *testing.T) {
	for _, v := range []api.Val{null, boolean(0), boolean(1), number(0), text("id"), list(), list(document(number(1))), sample.Nulls(32), sample.DeepLists(8)} {
		has(t, v, api.Val{}, api.ErrKind)
	}
	for _, v := range []api.Val{doc(), doc(field("x", number(1))), doc(field("i", number(1))), doc(field("ID", number(1))), doc(field("ida", number(1))), sample.Fields(32), sample.DeepDocs(8)} {
		has(t, v, api.Val{}, api.ErrKey)
	}
	for _, id := range []api.Val{null, boolean(0), boolean(1), list(), list(number(1)), doc(), document(number(1)), text(letters(65)), text(letters(1000)), text(strings.Repeat("\u00e4", 33))} {
		has(t, document(id), api.Val{}, api.ErrKey)
		has(t, doc(field("a", number(1)), field("id", id), field("x", number(1))), api.Val{}, api.ErrKey)
	}
}

// P16.2: a value that is not good is told by Good's error, be it a document with an id, one without, or none at all.
func TestIdOfBad(t *testing.T) {
	for _, f := range bad {
		has(t, f.V, api.Val{}, f.E)
		has(t, document(f.V), api.Val{}, f.E)
		has(t, doc(field("id", number(1)), field("x", f.V)), api.Val{}, f.E)
		has(t, doc(field("x", f.V)), api.Val{}, f.E)
		has(t, list(f.V), api.Val{}, f.E)
	}
	for _, v := range []api.Val{doc(field("x", null), field("id", number(1))), doc(field("id", number(1)), field("id", number(1))), {Kind: api.Doc, N: 1, F: []api.Field{field("id", number(1))}}, {F: []api.Field{field("id", number(1))}}, document(api.Val{Kind: api.Int, S: "a"})} {
		has(t, v, api.Val{}, api.ErrForm)
	}
	has(t, document(text("\xff")), api.Val{}, api.ErrText)
	has(t, document(text(strings.Repeat("\xff", 65))), api.Val{}, api.ErrText)
	has(t, doc(field("", null), field("id", number(1))), api.Val{}, api.ErrLimit)
	has(t, doc(field("id", number(1)), field("x", sample.DeepLists(8))), api.Val{}, api.ErrDeep)
	has(t, doc(field("id", number(1)), field("x", sample.DeepLists(7))), number(1), api.OK)
	has(t, doc(field("id", number(1)), field("x", text(letters(2036)))), number(1), api.OK)
	has(t, doc(field("id", number(1)), field("x", text(letters(2037)))), api.Val{}, api.ErrBig)
}

// P16.2: paths that are the same, one the beginning of the other, and of other steps.
func TestTouches(t *testing.T) {
	for _, p := range []string{"a", "_", "0", "99", "id", "a.b", "a.0.b", "a.b.c.d.e.f.g.h", "0.1.2.3.4.5.6.7", letters(24), letters(24) + "." + letters(24)} {
		touches(t, p, p, true)
		touches(t, p, "zz", false)
		touches(t, p, "zz."+p, false)
		steps := strings.Split(p, ".")
		for n := range len(steps) {
			touches(t, p, strings.Join(steps[:n+1], "."), true)
			touches(t, p, strings.Join(append(steps[:n:n], "zz"), "."), false)
			touches(t, p, strings.Join(append(steps[:n:n], "zz", "y"), "."), false)
		}
	}
	for a, b := range map[string]string{"a": "ab", "a.b": "a.bc", "ab.c": "a", "a.b.c": "b.c", "a.c": "a.b.c", "A": "a", "a.0": "a.1", "1": "10", "a.1": "a.10.b", "_": "__", "x.id": "id", "ida": "id", "a_b": "a.b"} {
		touches(t, a, b, false)
	}
	touches(t, "a.0", "a.0.b", true)
	touches(t, "id.x", "id", true)
}

// P16.2: what is no path touches nothing, itself neither.
func TestTouchesNoPath(t *testing.T) {
	for _, p := range append(badPaths, letters(1<<20), strings.Repeat("a.", 1<<20)+"a") {
		touches(t, p, p, false)
		touches(t, p, p+".b", false)
		for _, q := range append(badPaths, "a", "id", "id.x", "0", "1", "a.b", letters(24)) {
			touches(t, p, q, false)
		}
	}
}

// P16.2: paths by chance, held against another hand.
func TestTouchesByChance(t *testing.T) {
	r := rand.New(rand.NewSource(2))
	path := func() string {
		var l []string
		for range 1 + r.Intn(9) {
			l = append(l, one(r, "a", "a", "a", "b", "ab", "0", "00"))
		}
		return strings.Join(l[:1+r.Intn(len(l))], ".")
	}
	told := map[bool]int{}
	for range 20000 {
		a, b := path(), path()
		told[meets(a, b)]++
		touches(t, a, b, meets(a, b))
	}
	if told[true] < 2000 || told[false] < 2000 {
		t.Errorf("%v", told)
	}
}

// P16.2: texts that Parse refuses, by its error, even where the statement would make no sense, too.
func TestTextThatIsNone(t *testing.T) {
	for s, e := range map[string]api.Errno{
		"": api.ErrSyntax, "foo": api.ErrSyntax, "make": api.ErrSyntax, "make a b": api.ErrSyntax, "insert a": api.ErrSyntax, "find a limit": api.ErrSyntax, "make 1": api.ErrSyntax, "find a ?": api.ErrSyntax, "index a 100": api.ErrSyntax, "find a limit 65 x": api.ErrSyntax, "insert a 5 5": api.ErrSyntax, "find a order by x, x,": api.ErrSyntax,
		"make " + letters(25): api.ErrLimit, `insert a {"":1}`: api.ErrLimit, `insert a {"id":1,"id":2}`: api.ErrDup, "insert a [[[[[[[[[]]]]]]]]]": api.ErrDeep, "find a where x in 5 and " + strings.Repeat("(", 18): api.ErrDeep, `get a "` + letters(2046) + `"`: api.ErrBig, strings.Repeat(" ", 8193): api.ErrBig,
		"get a 01": api.ErrNumber, "find a limit 9223372036854775808": api.ErrNumber, "get a \"\xff\"": api.ErrText, "find a where x in 5 limit -0": api.ErrNumber,
	} {
		tells(t, s, e)
		if _, _, f := parse.Parse(s); f != e {
			t.Errorf("Parse(%q): %d, want %d", cut(s), int(f), int(e))
		}
	}
}

// P16.2: texts that Stmt refuses, and those next to them.
func TestText(t *testing.T) {
	long := letters(64)
	for s, e := range map[string]api.Errno{
		"make a": api.OK, "drop id": api.OK, `insert a {"id":1}`: api.OK, `replace a {"x":{},"id":"` + long + `"}`: api.OK, `replace a {"id":"` + long + `b"}`: api.ErrKey, "replace a {}": api.ErrKey, "replace a []": api.ErrKind, `insert a {"id":null}`: api.ErrKey, `insert a "id"`: api.ErrKind,
		"get a 1": api.OK, `get a ""`: api.OK, "get a null": api.ErrKey, `get a {"id":1}`: api.ErrKey, `get a "` + long + `"`: api.OK, `get a "` + long + `b"`: api.ErrKey, "index a x": api.OK, "index a x.id": api.OK, "index a ida": api.OK, "index a id": api.ErrKey, "unindex a id": api.ErrKey, "unindex a id . 0": api.ErrKey,
		"find a": api.OK, "find a limit 0": api.OK, "find a limit 64": api.OK, "find a limit -1": api.ErrArg, "find a limit 9223372036854775807": api.ErrArg, "find a where x in [5]": api.OK, "find a where x in 5": api.ErrKind, "count a where not (y = 1 or x in {})": api.ErrKind, "delete a where x in null": api.ErrKind, "delete a": api.OK,
		"find a order by a, b, c, d": api.OK, "find a order by a, b, c, d, e": api.ErrLimit, "find a order by x, x.y desc": api.OK, "find a order by x, x desc": api.ErrDup, "find a show a,b,c,d,e,f,g,h": api.OK, "find a show a,b,c,d,e,f,g,h,i": api.ErrLimit, "find a show x.0": api.ErrSyntax, "find a show x, x.y": api.ErrDup, "find a show x.y, x.z, id": api.OK, "find a show x.0, x, x": api.ErrSyntax,
		"update a unset a,unset b,unset c,unset d,unset e,unset f,unset g,unset h": api.OK, "update a unset a,unset b,unset c,unset d,unset e,unset f,unset g,unset h,unset i": api.ErrLimit, "update a set id = 1": api.ErrKey, "update a where x in 1 set id = 1": api.ErrKind, "update a add id.x 1": api.ErrKey, "update a push x 1, push x 2": api.ErrDup, "update a push x.0 1, push x.1 2": api.OK,
		"find a where x in 5 order by x,x limit 99": api.ErrArg, "find a where x in 5 order by x,x": api.ErrKind,
	} {
		tells(t, s, e)
		tells(t, " "+strings.ReplaceAll(s, " ", " \n\t")+" ", e)
	}
}

// P16.2: Text by chance: Parse's error, else what another hand tells of its statement.
func TestTextByChance(t *testing.T) {
	r := rand.New(rand.NewSource(3))
	told := map[api.Errno]int{}
	for range 30000 {
		s, _ := parse.Print(random(r))
		if r.Intn(4) == 0 {
			s = string(sample.Changed(r, []byte(s), []byte("a 0.,[\""), []byte(" id ")))
		}
		x, _, want := parse.Parse(s)
		if want == api.OK {
			want = otherwise(x)
		}
		told[want]++
		if tells(t, s, want); t.Failed() {
			return
		}
	}
	if told[api.OK] < 5000 || told[api.ErrSyntax] < 1000 || told[api.ErrKey] < 1000 || told[api.ErrArg] < 500 || told[api.ErrDup] < 100 {
		t.Errorf("%v", told)
	}
}

// P16.3: what parse.Print tells of a statement that is let pass is let pass, and is that statement.
func TestPrintOfWhatPasses(t *testing.T) {
	r := rand.New(rand.NewSource(4))
	passed := map[string]int{}
	for range 40000 {
		x := random(r)
		for range r.Intn(2) * r.Intn(2) {
			spoil(r, &x)
		}
		s, e := parse.Print(x)
		if e != api.OK || check.Stmt(x) != api.OK {
			continue
		}
		passed[x.Verb]++
		if y, f := check.Text(s); f != api.OK || show(x) != show(y) {
			t.Fatalf("%q: %s, %d, want %s", s, show(y), int(f), show(x))
		}
	}
	for _, verb := range sample.Verbs() {
		if passed[verb] < 200 {
			t.Errorf("%s: %d statements passed", verb, passed[verb])
		}
	}
}
