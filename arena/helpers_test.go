package arena_test

import (
	"fmt"
	"testing"

	"tidemark/api"
	"tidemark/arena"
)

// made is an empty arena.
func made(t *testing.T, words int) *arena.Arena {
	t.Helper()
	a, e := arena.New(words)
	if e != api.OK || a == nil {
		t.Fatalf("New(%d): %v, %d", words, a != nil, int(e))
	}
	return a
}

// laid is an arena with objects of these sizes; object k has the tag k + 1, the owner 10 k, and word i of it is
// 100 (k + 1) + i.
func laid(t *testing.T, words int, sizes ...int) *arena.Arena {
	t.Helper()
	a := made(t, words)
	for k, size := range sizes {
		at, e := a.Alloc(k+1, size/2, size, 10*k)
		if e != api.OK {
			t.Fatalf("object %d: %d", k, int(e))
		}
		for i := range size {
			if e := a.Put(at, i, uint64(100*(k+1)+i)); e != api.OK {
				t.Fatalf("object %d, word %d: %d", k, i, int(e))
			}
		}
	}
	return a
}

// tells sees to it that calls told these answers, shown as texts; an Errno is shown as its number.
func tells(t *testing.T, call string, got string, want ...any) {
	t.Helper()
	if w := line(want...); got != w {
		t.Errorf("%s: %s, want %s", call, got, w)
	}
}

// line shows answers; an Errno as its number.
func line(answers ...any) string {
	s := ""
	for i, x := range answers {
		if e, ok := x.(api.Errno); ok {
			x = int(e)
		}
		if i > 0 {
			s += " "
		}
		s += fmt.Sprint(x)
	}
	return s
}

// one, two and gap show what calls answer, bounds what an arena tells of its words.
func one[T any](x T, e api.Errno) string   { return line(x, e) }
func two(from, to int, e api.Errno) string { return line(from, to, e) }
func gap(low, high int, open bool) string  { return line(low, high, open) }
func bounds(a *arena.Arena) string         { return line(a.Words(), a.Top(), a.Free()) }

// picture shows all that an arena tells, of every place within it and some beside it.
func picture(a *arena.Arena) string {
	low, high, open := a.Gap()
	s := fmt.Appendln(nil, a.Words(), a.Top(), a.Free(), a.First(), low, high, open)
	for at := -2; at < a.Words()+3; at++ {
		h, e := a.Head(at)
		next, f := a.Next(at)
		s = fmt.Appendln(s, at, h, int(e), next, int(f))
		for i := -1; i <= h.Size; i++ {
			w, e := a.Get(at, i)
			s = fmt.Appendln(s, i, w, int(e))
		}
	}
	return string(s)
}

// thing is an object by another hand. Where it stands is not kept, but worked out.
type thing struct {
	head  arena.Head
	words []uint64
}

// other is an arena by another hand: things ahead of the gap and behind it, and how many words were skipped between.
// While the gap is closed, all things are ahead of it.
type other struct {
	room          int
	ahead, behind []thing
	gone          int
	open          bool
}

func length(l []thing) int {
	n := len(l)
	for _, x := range l {
		n += len(x.words)
	}
	return n
}

func (o *other) low() int  { return length(o.ahead) }
func (o *other) high() int { return o.low() + o.gone }
func (o *other) top() int  { return o.high() + length(o.behind) }

// at is the thing that begins at a place, and where the next one begins.
func (o *other) at(place int) (*thing, int) {
	begin := 0
	for i := range o.ahead {
		end := begin + 1 + len(o.ahead[i].words)
		if begin == place && i == len(o.ahead)-1 {
			return &o.ahead[i], o.high()
		}
		if begin == place {
			return &o.ahead[i], end
		}
		begin = end
	}
	begin += o.gone
	for i := range o.behind {
		end := begin + 1 + len(o.behind[i].words)
		if begin == place {
			return &o.behind[i], end
		}
		begin = end
	}
	return nil, 0
}

// picture shows what the arena should tell.
func (o *other) picture() string {
	low, high, first := 0, 0, 0
	if o.open {
		low, high = o.low(), o.high()
	}
	if len(o.ahead) == 0 {
		first = o.high()
	}
	s := fmt.Appendln(nil, o.room, o.top(), o.room-o.top(), first, low, high, o.open)
	for place := -2; place < o.room+3; place++ {
		x, next := o.at(place)
		if x == nil {
			s = fmt.Appendln(s, place, arena.Head{}, int(api.ErrArg), 0, int(api.ErrArg))
			s = fmt.Appendln(s, -1, 0, int(api.ErrArg))
			s = fmt.Appendln(s, 0, 0, int(api.ErrArg))
			continue
		}
		s = fmt.Appendln(s, place, x.head, 0, next, 0)
		s = fmt.Appendln(s, -1, 0, int(api.ErrArg))
		for i, w := range x.words {
			s = fmt.Appendln(s, i, w, 0)
		}
		s = fmt.Appendln(s, len(x.words), 0, int(api.ErrArg))
	}
	return string(s)
}

func (o *other) alloc(tag, refs, size, owner int) string {
	if tag < 1 || tag > 255 || size < 0 || size > 4096 || refs < 0 || refs > size || owner < 0 || owner > 1048575 {
		return line(0, api.ErrArg)
	}
	place := o.top()
	if o.room < place+size+1 {
		return line(0, api.ErrFull)
	}
	x := thing{arena.Head{Tag: tag, Refs: refs, Size: size, Owner: owner}, make([]uint64, size)}
	if o.open {
		o.behind = append(o.behind, x)
	} else {
		o.ahead = append(o.ahead, x)
	}
	return line(place, api.OK)
}

func (o *other) mark(place int, on bool) string {
	x, _ := o.at(place)
	if x == nil {
		return line(api.ErrArg)
	}
	x.head.Mark = on
	return line(api.OK)
}

func (o *other) put(place, i int, w uint64) string {
	x, _ := o.at(place)
	if x == nil || i < 0 || i >= len(x.words) {
		return line(api.ErrArg)
	}
	x.words[i] = w
	return line(api.OK)
}

func (o *other) opens() string {
	if o.open {
		return line(api.ErrState)
	}
	o.ahead, o.behind, o.open = nil, o.ahead, true
	return line(api.OK)
}

// state is the error of a step past a thing behind the gap.
func (o *other) state() api.Errno {
	if !o.open {
		return api.ErrState
	}
	if len(o.behind) == 0 {
		return api.ErrEnd
	}
	return api.OK
}

func (o *other) keep() string {
	if e := o.state(); e != api.OK {
		return line(0, 0, e)
	}
	from, to := o.high(), o.low()
	o.ahead, o.behind = append(o.ahead, o.behind[0]), o.behind[1:]
	return line(from, to, api.OK)
}

func (o *other) skip() string {
	if e := o.state(); e != api.OK {
		return line(0, e)
	}
	from := o.high()
	o.gone += length(o.behind[:1])
	o.behind = o.behind[1:]
	return line(from, api.OK)
}

func (o *other) closes() string {
	if !o.open {
		return line(api.ErrState)
	}
	if len(o.behind) > 0 {
		return line(api.ErrBusy)
	}
	o.gone, o.open = 0, false
	return line(api.OK)
}

// pair is an arena and the other hand's, which are told the same.
type pair struct {
	arena *arena.Arena
	other *other
}
