package json_test

import (
	stdjson "encoding/json"
	"fmt"
	"math/rand"
	"slices"
	"strings"
	"testing"
	"unsafe"

	"tidemark/api"
	"tidemark/json"
	"tidemark/sample"
	"tidemark/value"
)

// P4.2: Parse of Print is the value; so with blanks between its parts, fields in another order, characters by their numbers; Print tells the shortest of these texts.
func TestThereAndBack(t *testing.T) {
	r := rand.New(rand.NewSource(1))
	for range 20000 {
		v := random(r, 4)
		s, e := json.Print(v)
		if e != value.Good(v) {
			t.Fatalf("Print of %s: %d", short(v), int(e))
		}
		if e != api.OK {
			continue
		}
		long := spread(r, v)
		parses(t, s, v)
		parses(t, long, v)
		x, _, _ := json.Parse(long)
		if y, e := json.Print(x); e != api.OK || y != s || len(y) > len(long) {
			t.Fatalf("Print of Parse of %q: %q, %d, want %q", cut(long), cut(y), int(e), cut(s))
		}
		takes(t, "1"+s+"]", 1, v, 1+len(s))
		if t.Failed() {
			return
		}
	}
}

// P4.2: no byte of what Print tells can be left out.
func TestShortest(t *testing.T) {
	r := rand.New(rand.NewSource(2))
	for range 2000 {
		v := random(r, 3)
		s, e := json.Print(v)
		if e != api.OK {
			continue
		}
		for i := range s {
			less := s[:i] + s[i+1:]
			if x, _, e := json.Parse(less); e == api.OK && show(x) == show(v) {
				t.Fatalf("%q tells the same as %q", cut(less), cut(s))
			}
		}
	}
}

// P4.2: values one behind the other are told one by one.
func TestOneBehindTheOther(t *testing.T) {
	r := rand.New(rand.NewSource(3))
	for range 500 {
		var l []api.Val
		s := ""
		for range r.Intn(20) {
			v := random(r, 3)
			l, s = append(l, v), s+" "+spread(r, v)
		}
		at := 0
		for _, want := range l {
			v, next, _, e := json.Take(s, at)
			if e != api.OK || show(v) != show(want) || next <= at {
				t.Fatalf("Take of %q from %d: %s, %d, %d, want %s", cut(s), at, short(v), next, int(e), short(want))
			}
			at = next
		}
		takesNone(t, s, at, api.ErrSyntax, len(s))
	}
}

// pieces are what texts are made of by chance.
var pieces = []string{"[", "]", "{", "}", ",", ":", " ", "\n", "\t", "null", "true", "false", "nul", "0", "1", "-", "10", "9223372036854775807", "-9223372036854775808", ".", "e", `"a"`, `"b"`, `"a":`, `"b":1`, `{"a":`, `{"a":1,`, `"\u0061"`, `"\ud83d\ude00"`, `"\ud83d"`, `"`, `\`, "\u00e4", "\xff", "x", `""`, "[[[[", "]]]]", "1,", "[1,", `"` + as(25) + `"`, `"` + as(1500) + `"`}

// P4.1: texts that chance puts together, held against a reader by another hand; what is taken, the library takes too.
func TestByAnotherHand(t *testing.T) {
	r := rand.New(rand.NewSource(4))
	taken := 0
	for range 200000 {
		s := ""
		for range 1 + r.Intn(14) {
			s += pieces[r.Intn(len(pieces))]
		}
		from := r.Intn(len(s)+1) / (1 + 3*r.Intn(2))
		taken += byAnotherHand(t, s, from)
		if t.Failed() {
			return
		}
	}
	if taken < 10000 {
		t.Errorf("only %d texts were taken", taken)
	}
}

// byAnotherHand holds Take against the other hand's, and tells 1 if it took the text.
func byAnotherHand(t *testing.T, s string, from int) int {
	t.Helper()
	v, next, at, e := handTake(s, from)
	if e != api.OK {
		takesNone(t, s, from, e, at)
		return 0
	}
	takes(t, s, from, v, next)
	if !stdjson.Valid([]byte(s[from:next])) {
		t.Errorf("Take of %q from %d is no JSON", cut(s), from)
	}
	return 1
}

// P4.1: good texts in which a byte is another one, is left out or stands there twice.
func TestSpoilt(t *testing.T) {
	r := rand.New(rand.NewSource(5))
	for range 40000 {
		s := spread(r, random(r, 4))
		for range 1 + r.Intn(2) {
			i := r.Intn(len(s) + 1)
			k := min(len(s), i+r.Intn(3))
			s = s[:i] + pieces[r.Intn(len(pieces))] + s[k:]
		}
		byAnotherHand(t, s, 0)
		if t.Failed() {
			return
		}
	}
}

// P4.1: Lists and Docs with about as many parts as may be, now and then with a name that is there already.
func TestManyParts(t *testing.T) {
	r := rand.New(rand.NewSource(6))
	for range 5000 {
		var l []string
		names := r.Perm(300)
		list := r.Intn(2) == 0
		for i := range 30 + r.Intn(5) {
			x := []string{"1", "[]", `"a"`, "null", `{"a":1}`, " 2 "}[r.Intn(6)]
			if r.Intn(60) == 0 {
				x = pieces[r.Intn(len(pieces))]
			}
			if r.Intn(60) == 0 {
				names[i] = names[r.Intn(i+1)]
			}
			if !list {
				x = fmt.Sprintf(`"%d":%s`, names[i], x)
			}
			l = append(l, x)
		}
		s := "{" + strings.Join(l, ",") + "}"
		if list {
			s = "[" + strings.Join(l, ",") + "]"
		}
		byAnotherHand(t, s, 0)
		if t.Failed() {
			return
		}
	}
}

// span is where something lies.
type span struct{ from, to uintptr }

// spanOf tells where so many things of that size lie.
func spanOf(at unsafe.Pointer, n int, size uintptr) span {
	return span{uintptr(at), uintptr(at) + uintptr(n)*size}
}

func spanOfText(s string) span { return spanOf(unsafe.Pointer(unsafe.StringData(s)), len(s), 1) }

// memory tells where the lists and texts of a value lie, spare room too. (Texts of one byte are the language's own.)
func memory(v api.Val) []span {
	l := []span{
		spanOf(unsafe.Pointer(unsafe.SliceData(v.L)), cap(v.L), unsafe.Sizeof(api.Val{})),
		spanOf(unsafe.Pointer(unsafe.SliceData(v.F)), cap(v.F), unsafe.Sizeof(api.Field{})),
	}
	texts := []string{v.S}
	for _, x := range v.L {
		l = append(l, memory(x)...)
	}
	for _, x := range v.F {
		texts = append(texts, x.Name)
		l = append(l, memory(x.V)...)
	}
	for _, s := range texts {
		if len(s) > 1 {
			l = append(l, spanOfText(s))
		}
	}
	return slices.DeleteFunc(l, func(s span) bool { return s.from == s.to })
}

// overlap tells whether two of the spans share memory.
func overlap(lists ...[]span) bool {
	l := slices.Concat(lists...)
	for i, p := range l {
		for _, q := range l[i+1:] {
			if p.from < q.to && q.from < p.to {
				return true
			}
		}
	}
	return false
}

// R4: what is answered is new memory, and no two of its lists share any.
func TestAnswersAreNew(t *testing.T) {
	r := rand.New(rand.NewSource(7))
	for _, v := range sample.Nested() {
		a := withRoom(v)
		s, _ := json.Print(a)
		q, _ := json.Print(a)
		long := strings.Clone(spread(r, v))
		x, _, _ := json.Parse(s)
		y, _, _ := json.Parse(s)
		z, _, _, _ := json.Take(long, 0)
		w, _, _ := json.Parse(long)
		if overlap(memory(a), []span{spanOfText(s), spanOfText(q), spanOfText(long)}, memory(x), memory(y), memory(z), memory(w)) {
			t.Errorf("%s: answers share memory", short(v))
		}
		if show(a) != show(v) {
			t.Errorf("%s was changed", short(v))
		}
	}
}

// R4: an answer hangs no more on what was handed in.
func TestNothingIsKept(t *testing.T) {
	for _, v := range sample.Nested() {
		a := withRoom(v)
		s, _ := json.Print(a)
		b := []byte(s)
		x, _, _ := json.Parse(unsafe.String(&b[0], len(b)))
		y, _, _, _ := json.Take(unsafe.String(&b[0], len(b)), 0)
		clear(b)
		if show(x) != show(v) || show(y) != show(v) {
			t.Errorf("%s was changed with the text it was read of", short(v))
		}
		was := strings.Clone(s)
		clear(a.L)
		clear(a.F)
		if s != was {
			t.Errorf("the text of %s was changed with it", short(v))
		}
	}
}

// R1: texts and values that are great.
func TestVeryGreat(t *testing.T) {
	s := "1"
	for range 3 {
		s = "[" + strings.Repeat(s+",", 31) + s + "]"
	}
	fails(t, s, api.ErrBig, 0)
	fails(t, s[:len(s)-1], api.ErrSyntax, len(s)-1)
	fails(t, s[:len(s)-1]+"}", api.ErrSyntax, len(s)-1)
	fails(t, `"`+as(1<<22), api.ErrSyntax, 0)
	fails(t, `"`+strings.Repeat(`\`, 1<<22), api.ErrSyntax, 0)
	fails(t, strings.Repeat(" ", 1<<20), api.ErrSyntax, 1<<20)
	fails(t, strings.Repeat("7", 1<<20), api.ErrNumber, 0)
	fails(t, "["+strings.Repeat("0,", 1<<20), api.ErrLimit, 65)
	parsesNone(t, "1"+strings.Repeat(" ", 1<<20)+"1", api.ErrSyntax, 1<<20+1)
	printsNone(t, deepLists(1<<16), api.ErrDeep)
	printsNone(t, text(as(1<<24)), api.ErrBig)
	printsNone(t, nulls(1<<20), api.ErrLimit)
}

// R1, R2, R5: whatever bytes: each call ends, tells nothing beside an error, and tells it again.
func TestAnyBytes(t *testing.T) {
	r := rand.New(rand.NewSource(8))
	const likely = "[]{},:\"\\ \n0123456789-.eEtrufalsn"
	for range 50000 {
		s := sample.AnyText(r, likely, 40, 10)
		from := r.Intn(len(s)+5) - 2
		tell := func() string {
			v, next, at, e := json.Take(s, from)
			w, place, f := json.Parse(s)
			if e != api.OK && (next != 0 || show(v) != show(api.Val{})) || f != api.OK && show(w) != show(api.Val{}) || e == api.OK && at != 0 || f == api.OK && place != 0 {
				t.Fatalf("%q from %d: something is told beside what may be", s, from)
			}
			if at < 0 || at > len(s) || place < 0 || place > len(s) {
				t.Fatalf("%q from %d: a place that is none: %d, %d", s, from, at, place)
			}
			return fmt.Sprint(show(v), next, at, int(e), show(w), place, int(f))
		}
		if a, c := tell(), tell(); a != c {
			t.Fatalf("%q from %d: %s, then %s", s, from, a, c)
		}
	}
}
