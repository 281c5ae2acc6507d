package key_test

import (
	"encoding/binary"
	"fmt"
	"math/rand"
	"slices"
	"strings"
	"testing"

	"tidemark/api"
	"tidemark/key"
	"tidemark/sample"
	"tidemark/value"
)

// What the tests are made of, by short names.
var (
	null, boolean, number, text = sample.Null(), sample.Bool, sample.Int, sample.Text
	list, doc, field            = sample.List, sample.Doc, sample.Field
	nulls, fields               = sample.Nulls, sample.Fields
	deepLists, deepDocs         = sample.DeepLists, sample.DeepDocs
	letters, show, cut, short   = sample.Letters, sample.Show, sample.Cut, sample.Short
)

// raw puts bytes together: of numbers, texts and bytes as they are, of values as written has them.
func raw(parts ...any) []byte { return sample.Raw(written, parts...) }

// written is the key of a value, good or not, by another hand.
func written(v api.Val) []byte {
	b := []byte{byte(v.Kind) * 10}
	switch v.Kind {
	case api.Bool:
		b = append(b, byte(v.N))
	case api.Int:
		b = binary.BigEndian.AppendUint64(b, uint64(v.N)^1<<63)
	case api.Text:
		b = raw(b, writtenText(v.S))
	case api.List:
		for _, x := range v.L {
			b = raw(b, 1, x)
		}
		b = raw(b, 0)
	case api.Doc:
		for _, f := range v.F {
			b = raw(b, 1, writtenText(f.Name), f.V)
		}
		b = raw(b, 0)
	}
	return b
}

func writtenText(s string) string { return strings.ReplaceAll(s, "\x00", "\x00\xff") + "\x00\x00" }

// writtenAll is a joint key by another hand.
func writtenAll(l []api.Val) []byte {
	var b []byte
	for _, v := range l {
		b = raw(b, v)
	}
	return b
}

// readText is the text that s begins with, and the rest, by another hand.
func readText(s string) (x, rest string, ok bool) {
	for {
		ahead, behind, found := strings.Cut(s, "\x00")
		if !found || behind == "" {
			return "", "", false
		}
		x, s = x+ahead, behind[1:]
		switch behind[0] {
		case 0:
			return x, s, true
		case 255:
			x += "\x00"
		default:
			return "", "", false
		}
	}
}

// readValue is the value that s begins with, good or not, and the rest, by another hand: going down by calls.
func readValue(s string) (v api.Val, rest string, ok bool) {
	if s == "" || s[0]%10 != 0 {
		return v, "", false
	}
	v.Kind, rest, ok = int(s[0])/10, s[1:], true
	switch v.Kind {
	case api.Null:
	case api.Bool:
		if rest == "" || rest[0] > 1 {
			return v, "", false
		}
		v.N, rest = int64(rest[0]), rest[1:]
	case api.Int:
		if len(rest) < 8 {
			return v, "", false
		}
		v.N, rest = int64(binary.BigEndian.Uint64([]byte(rest))^1<<63), rest[8:]
	case api.Text:
		v.S, rest, ok = readText(rest)
	case api.List, api.Doc:
		v, rest, ok = readParts(v, rest)
	default:
		return v, "", false
	}
	return v, rest, ok
}

// readParts is v with the parts that s begins with, and the rest, by another hand.
func readParts(v api.Val, s string) (api.Val, string, bool) {
	for strings.HasPrefix(s, "\x01") {
		var f api.Field
		ok := true
		s = s[1:]
		if v.Kind == api.Doc {
			f.Name, s, ok = readText(s)
		}
		if ok {
			f.V, s, ok = readValue(s)
		}
		if !ok {
			return v, "", false
		}
		if v.Kind == api.Doc {
			v.F = append(v.F, f)
		} else {
			v.L = append(v.L, f.V)
		}
	}
	if !strings.HasPrefix(s, "\x00") {
		return v, "", false
	}
	return v, s[1:], true
}

// readAll is Split by another hand, of n from 0 on.
func readAll(b []byte, n int) ([]api.Val, api.Errno) {
	var l []api.Val
	s := string(b)
	for range n {
		v, rest, ok := readValue(s)
		if !ok || value.Good(v) != api.OK {
			return nil, api.ErrForm
		}
		l, s = append(l, v), rest
	}
	if s != "" {
		return nil, api.ErrForm
	}
	return l, api.OK
}

// shortBytes tells the beginning of bytes.
func shortBytes(b []byte) string { return cut(fmt.Sprint(b)) }

// showAll tells all of some values.
func showAll(l []api.Val) string { return show(list(l...)) }

// isKey sees to it that b is the key of v, there and back.
func isKey(t *testing.T, v api.Val, parts ...any) {
	t.Helper()
	want := raw(parts...)
	if b, e := key.Of(v); e != api.OK || !slices.Equal(b, want) {
		t.Errorf("Of(%s): %s, %d, want %s", short(v), shortBytes(b), int(e), shortBytes(want))
	}
	if x, e := key.Back(want); e != api.OK || show(x) != show(v) {
		t.Errorf("Back(%s): %s, %d, want %s", shortBytes(want), short(x), int(e), short(v))
	}
	isJoint(t, []api.Val{v}, want)
	isJoint(t, []api.Val{null, v}, 10, want)
	isJoint(t, []api.Val{v, v, boolean(1)}, want, want, 20, 1)
}

// isJoint sees to it that b is the joint key of l, there and back.
func isJoint(t *testing.T, l []api.Val, parts ...any) {
	t.Helper()
	want := raw(parts...)
	if b, e := key.Join(l); e != api.OK || !slices.Equal(b, want) {
		t.Errorf("Join(%s): %s, %d, want %s", cut(showAll(l)), shortBytes(b), int(e), shortBytes(want))
	}
	splits(t, want, l)
}

// splits sees to it that Split tells just those values of b.
func splits(t *testing.T, b []byte, want []api.Val) {
	t.Helper()
	if l, e := key.Split(b, len(want)); e != api.OK || showAll(l) != showAll(want) {
		t.Errorf("Split(%s, %d): %s, %d, want %s", shortBytes(b), len(want), cut(showAll(l)), int(e), cut(showAll(want)))
	}
}

// splitsNone sees to it that Split tells the error, and nothing beside it.
func splitsNone(t *testing.T, b []byte, n int, want api.Errno) {
	t.Helper()
	if l, e := key.Split(b, n); e != want || len(l) != 0 {
		t.Errorf("Split(%s, %d): %s, %d, want error %d", shortBytes(b), n, cut(showAll(l)), int(e), int(want))
	}
}

// isNoKey sees to it that the bytes are no good value's key: neither by themselves, nor behind another one.
func isNoKey(t *testing.T, parts ...any) {
	t.Helper()
	b := raw(parts...)
	if v, e := key.Back(b); e != api.ErrForm || show(v) != show(api.Val{}) {
		t.Errorf("Back(%s): %s, %d, want error %d", shortBytes(b), short(v), int(e), int(api.ErrForm))
	}
	splitsNone(t, b, 1, api.ErrForm)
	splitsNone(t, raw(40, "x", 0, 0, b), 2, api.ErrForm)
}

// isBad sees to it that v has no key, for that reason, and that what would be its key is none.
func isBad(t *testing.T, v api.Val, want api.Errno) {
	t.Helper()
	hasNone(t, v, want)
	isNoKey(t, v)
}

// hasNone sees to it that v has no key, for that reason.
func hasNone(t *testing.T, v api.Val, want api.Errno) {
	t.Helper()
	if e := value.Good(v); e != want {
		t.Errorf("Good(%s): %d, want %d", short(v), int(e), int(want))
	}
	if b, e := key.Of(v); e != want || len(b) != 0 {
		t.Errorf("Of(%s): %s, %d, want error %d", short(v), shortBytes(b), int(e), int(want))
	}
	joinsNone(t, want, v)
	joinsNone(t, want, null, v, null)
}

// joinsNone sees to it that Join tells the error, and nothing beside it.
func joinsNone(t *testing.T, want api.Errno, l ...api.Val) {
	t.Helper()
	if b, e := key.Join(l); e != want || len(b) != 0 {
		t.Errorf("Join(%s): %s, %d, want error %d", cut(showAll(l)), shortBytes(b), int(e), int(want))
	}
}

// random makes a good value of at most that depth.
func random(r *rand.Rand, depth int) api.Val {
	texts := []string{"", "\x00", "\x00\x00", "\x00a", "\x01", "a", "a\x00", "a\x00b", "ab", "b", "\u00e4", "\U0001f600", letters(40)}
	names := []string{"\x00", "\x00\x00", "\x00a", "\x01", "a", "a\x00", "aa", "b", "\u00e4"}
	return sample.Maker{Chance: r, Texts: texts, Names: names}.Value(depth)
}
