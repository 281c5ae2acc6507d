package json_test

import (
	"fmt"
	"math/rand"
	"slices"
	"strconv"
	"strings"
	"testing"

	"tidemark/api"
	"tidemark/json"
	"tidemark/sample"
	"tidemark/utf"
	"tidemark/value"
)

// The values that the tests are made of, by short names.
var (
	null, boolean, number, text = sample.Null(), sample.Bool, sample.Int, sample.Text
	list, doc, field            = sample.List, sample.Doc, sample.Field
	nulls, fields               = sample.Nulls, sample.Fields
	deepLists, deepDocs         = sample.DeepLists, sample.DeepDocs
	as, show, cut, short        = sample.Letters, sample.Show, sample.Cut, sample.Short
	withRoom, showRoom          = sample.WithRoom, sample.ShowRoom
)

// prints sees to it that Print tells that text of v, and Parse tells v of it.
func prints(t *testing.T, v api.Val, want string) {
	t.Helper()
	if s, e := json.Print(v); e != api.OK || s != want {
		t.Errorf("Print of %s: %s, %d, want %s", short(v), cut(s), int(e), cut(want))
	}
	reads(t, want, v)
}

// printsNone sees to it that Print tells the error of v.
func printsNone(t *testing.T, v api.Val, want api.Errno) {
	t.Helper()
	if s, e := json.Print(v); e != want || s != "" {
		t.Errorf("Print of %s: %s, %d, want error %d", short(v), cut(s), int(e), int(want))
	}
}

func parses(t *testing.T, s string, want api.Val) {
	t.Helper()
	if v, at, e := json.Parse(s); e != api.OK || at != 0 || show(v) != show(want) {
		t.Errorf("Parse of %q: %s, %d, %d, want %s", cut(s), short(v), at, int(e), short(want))
	}
}

func takes(t *testing.T, s string, from int, want api.Val, behind int) {
	t.Helper()
	if v, next, at, e := json.Take(s, from); e != api.OK || at != 0 || next != behind || show(v) != show(want) {
		t.Errorf("Take of %q from %d: %s, %d, %d, %d, want %s, %d", cut(s), from, short(v), next, at, int(e), short(want), behind)
	}
}

func parsesNone(t *testing.T, s string, want api.Errno, place int) {
	t.Helper()
	if v, at, e := json.Parse(s); e != want || at != place || show(v) != show(api.Val{}) {
		t.Errorf("Parse of %q: %s, %d, %d, want error %d at %d", cut(s), short(v), at, int(e), int(want), place)
	}
}

func takesNone(t *testing.T, s string, from int, want api.Errno, place int) {
	t.Helper()
	if v, next, at, e := json.Take(s, from); e != want || at != place || next != 0 || show(v) != show(api.Val{}) {
		t.Errorf("Take of %q from %d: %s, %d, %d, %d, want error %d at %d", cut(s), from, short(v), next, at, int(e), int(want), place)
	}
}

// reads sees to it that s is a text of v: by itself, at a place within, and with things behind it.
func reads(t *testing.T, s string, v api.Val) {
	t.Helper()
	parses(t, s, v)
	parses(t, " \t\r\n"+s+"\n\r\t ", v)
	behind := len(strings.TrimRight(s, " \t\n\r"))
	takes(t, s, 0, v, behind)
	for _, tail := range []string{" ", "]", "}", ",", ":", "\"", " 1", "\n\xff", "\x00"} {
		takes(t, s+tail, 0, v, behind)
		takes(t, "[1"+s+tail, 2, v, 2+behind)
		takes(t, "\"\xff\t "+s+tail, 2, v, 4+behind)
	}
}

// fails sees to it that the text s has that fault there: by itself, at a place within, and with blanks ahead. What is too big is told where the reading began.
func fails(t *testing.T, s string, want api.Errno, place int) {
	t.Helper()
	moved := func(from, n int) int {
		if want == api.ErrBig {
			return from
		}
		return from + n + place
	}
	parsesNone(t, s, want, place)
	parsesNone(t, "\t\n "+s, want, moved(0, 3))
	takesNone(t, s, 0, want, place)
	takesNone(t, "[1"+s, 2, want, moved(2, 0))
	takesNone(t, "\"\xff\r "+s, 2, want, moved(2, 2))
}

// hand reads a text by another hand: going down by calls, looking ahead by pieces of text.
type hand struct {
	s     string
	depth int
}

// skip is the first place from there on that is no blank.
func (h hand) skip(at int) int {
	return len(h.s) - len(strings.TrimLeft(h.s[at:], " \t\n\r"))
}

// starts tells whether the text goes on like that.
func (h hand) starts(at int, x string) bool { return strings.HasPrefix(h.s[at:], x) }

// quoted is a quoted text: the shortest piece that Unquote takes, else what it tells of all.
func (h hand) quoted(at int) (string, int, api.Errno) {
	for n := at + 1; n <= len(h.s); n++ {
		if h.s[n-1] != '"' {
			continue
		}
		if x, e := utf.Unquote(h.s[at:n]); e == api.OK {
			return x, n, api.OK
		}
	}
	_, e := utf.Unquote(h.s[at:])
	if e == api.ErrForm {
		e = api.ErrSyntax
	}
	return "", at, e
}

func (h hand) number(at int) (api.Val, int, api.Errno) {
	from := at
	if h.starts(at, "-") {
		at++
	}
	rest := strings.TrimLeft(h.s[at:], "0123456789")
	n := len(h.s) - len(rest)
	if n == at {
		return api.Val{}, at, api.ErrSyntax
	}
	v, err := strconv.Atoi(h.s[from:n])
	if err != nil || h.starts(at, "0") && n > at+1 || h.s[from:n] == "-0" || rest != "" && strings.Contains(".eE", rest[:1]) {
		return api.Val{}, from, api.ErrNumber
	}
	return number(int64(v)), n, api.OK
}

// value is what is read from there on, and the place behind it or of the fault; without the limit on all bytes.
func (h hand) value(at int) (api.Val, int, api.Errno) {
	at = h.skip(at)
	for word, v := range map[string]api.Val{"null": null, "true": boolean(1), "false": boolean(0)} {
		if h.starts(at, word) {
			return v, at + len(word), api.OK
		}
	}
	if at == len(h.s) {
		return api.Val{}, at, api.ErrSyntax
	}
	switch c := h.s[at]; {
	case c == '"':
		x, n, e := h.quoted(at)
		return text(x), n, e
	case c == '[' || c == '{':
		if h.depth == 8 {
			return api.Val{}, at, api.ErrDeep
		}
		return hand{h.s, h.depth + 1}.parts(at)
	case c == '-' || c >= '0' && c <= '9':
		return h.number(at)
	}
	return api.Val{}, at, api.ErrSyntax
}

// parts is a List or a Doc that begins there.
func (h hand) parts(at int) (api.Val, int, api.Errno) {
	v, end := list(), "]"
	if h.starts(at, "{") {
		v, end = doc(), "}"
	}
	at = h.skip(at + 1)
	if h.starts(at, end) {
		return v, at + 1, api.OK
	}
	for {
		var e api.Errno
		if v, at, e = h.part(v, h.skip(at)); e != api.OK {
			return api.Val{}, at, e
		}
		at = h.skip(at)
		if h.starts(at, end) {
			slices.SortFunc(v.F, func(a, b api.Field) int { return strings.Compare(a.Name, b.Name) })
			return v, at + 1, api.OK
		}
		if !h.starts(at, ",") {
			return api.Val{}, at, api.ErrSyntax
		}
		at++
	}
}

// part is v with the part that begins there.
func (h hand) part(v api.Val, at int) (api.Val, int, api.Errno) {
	if v.Kind == api.List {
		if len(v.L) == 32 && at < len(h.s) && strings.IndexByte(`0123456789-"[{ntf`, h.s[at]) >= 0 {
			return api.Val{}, at, api.ErrLimit
		}
		x, n, e := h.value(at)
		v.L = append(v.L, x)
		return v, n, e
	}
	if !h.starts(at, `"`) {
		return api.Val{}, at, api.ErrSyntax
	}
	name, n, e := h.quoted(at)
	if e != api.OK {
		return api.Val{}, at, e
	}
	if len(v.F) == 32 || len(name) < 1 || len(name) > 24 {
		return api.Val{}, at, api.ErrLimit
	}
	if slices.ContainsFunc(v.F, func(f api.Field) bool { return f.Name == name }) {
		return api.Val{}, at, api.ErrDup
	}
	n = h.skip(n)
	if !h.starts(n, ":") {
		return api.Val{}, n, api.ErrSyntax
	}
	x, n, e := h.value(n + 1)
	v.F = append(v.F, field(name, x))
	return v, n, e
}

// handTake is Take by another hand.
func handTake(s string, from int) (v api.Val, next int, at int, e api.Errno) {
	v, next, e = hand{s: s}.value(from)
	if e != api.OK {
		return api.Val{}, 0, next, e
	}
	if value.Good(v) != api.OK {
		return api.Val{}, 0, from, value.Good(v)
	}
	return v, next, 0, api.OK
}

// random makes a value of at most that depth; nearly all of them are good.
func random(r *rand.Rand, depth int) api.Val {
	texts := []string{"", "a", "\x00\x1f", "a\"b", "\\", "\u00e4\n", "\u20ac/", "\U0001f600", "[1,2]"}
	names := []string{"\x00", "\"", "a", "aa", "b", "\u00e4"}
	return sample.Maker{Chance: r, Texts: texts, Names: names}.Value(depth)
}

// spread is a text of v by another hand: with blanks between its parts, fields in any order, characters by their numbers.
func spread(r *rand.Rand, v api.Val) string {
	gap := func() string {
		return []string{"", "", " ", "\t", "\n", "\r", " \r\n\t "}[r.Intn(7)]
	}
	s := ""
	switch v.Kind {
	case api.Null:
		s = "null"
	case api.Bool:
		s = fmt.Sprint(v.N == 1)
	case api.Int:
		s = fmt.Sprint(v.N)
	case api.Text:
		s = numbered(r, v.S)
	case api.List:
		var l []string
		for _, x := range v.L {
			l = append(l, spread(r, x))
		}
		s = "[" + gap() + strings.Join(l, ",") + "]"
	case api.Doc:
		var l []string
		for _, f := range v.F {
			l = append(l, gap()+numbered(r, f.Name)+gap()+":"+spread(r, f.V))
		}
		r.Shuffle(len(l), func(i, k int) { l[i], l[k] = l[k], l[i] })
		s = "{" + gap() + strings.Join(l, ",") + "}"
	}
	return gap() + s + gap()
}

// numbered is a quoted text, some characters of it by their numbers.
func numbered(r *rand.Rand, s string) string {
	q := `"`
	for _, c := range s {
		switch {
		case c > 0xffff || c >= ' ' && c != '"' && c != '\\' && r.Intn(2) == 0:
			q += string(c)
		case c == '/':
			q += `\/`
		default:
			q += fmt.Sprintf([]string{`\u%04x`, `\u%04X`}[r.Intn(2)], c)
		}
	}
	return q + `"`
}
