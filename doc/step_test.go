package doc_test

import (
	"strconv"
	"testing"

	"tidemark/api"
	"tidemark/doc"
	"tidemark/path"
	"tidemark/sample"
)

// stepsTried are texts of which some are one step.
func stepsTried() []string {
	l := []string{"", "a", "b", "id", "x_1", "_", "A", "aa", "f00000", "f00031", "f00032", sample.Letters(24), sample.Letters(23) + "z", sample.Letters(25),
		"a.b", "a.0", "0.a", ".", "a.", ".a", "0.0", "c d", "\u00e4", "\xff", "00", "01", "02", "010", "100", "-1", "+1", " 0", "0 ", "1a", "a b"}
	for n := range 36 {
		l = append(l, strconv.Itoa(n))
	}
	return l
}

// stepsAgree sees to it that Step leads where a path leads from the value v of x.
func (w *world) stepsAgree(x uint64, v api.Val) {
	w.Helper()
	for _, s := range stepsTried() {
		want, ok := path.Get(v, s)
		if steps, _ := path.Steps(s); len(steps) > 1 {
			ok = false
		}
		if !ok {
			w.says(s, w.steps(x, s), 0, false, api.OK)
			continue
		}
		y, there, e := doc.Step(w.heap, x, s)
		w.says(s, text(there, e), true, api.OK)
		w.reads(s, y, want)
	}
}

// P12.2: Step leads where one step of a path leads, in good values, and makes nothing.
func TestStepOfValues(t *testing.T) {
	w := empty(t, 60000, 9000)
	for _, v := range good() {
		x := w.built(v)
		w.same(sample.Short(v), func() { w.stepsAgree(x, v) })
	}
}

// P12.2: the handle is that of the part itself.
func TestStep(t *testing.T) {
	w := empty(t, 500, 90)
	null, five, inner := w.null(), w.object(3, nil, 5), w.list()
	l := w.list(null, five, null, inner)
	d := w.fields(w.name("0"), null, w.name("_"), five, w.name("a"), l, w.name("c d"), null, w.name("id"), inner)
	for _, c := range []struct {
		x    uint64
		step string
		want uint64
	}{
		{d, "_", five}, {d, "a", l}, {d, "id", inner}, {l, "0", null}, {l, "1", five}, {l, "2", null}, {l, "3", inner},
	} {
		w.says(text("Step", c.x, c.step), w.steps(c.x, c.step), c.want, true, api.OK)
	}
	for _, s := range []string{"b", "i", "ida", "A", "0", "1", "c d", "c", "", "a.0", "a.", "_ ", "a\x00"} {
		w.says("of the Doc: "+s, w.steps(d, s), 0, false, api.OK)
	}
	for _, s := range []string{"4", "5", "99", "00", "01", "03", "-1", "-0", "a", "", "0.0", "1000", "18446744073709551616", "4294967296", "\u0661"} {
		w.says("of the List: "+s, w.steps(l, s), 0, false, api.OK)
	}
	for _, x := range []uint64{null, five, inner, w.fields(), w.object(2, nil, 1), w.name("a"), w.object(4, nil, 0)} {
		for _, s := range stepsTried() {
			w.says("of what has no parts: "+s, w.steps(x, s), 0, false, api.OK)
		}
	}
}

// P12.2: a step that is a name of the greatest length, and one byte more.
func TestStepLongNames(t *testing.T) {
	w := empty(t, 500, 90)
	v := sample.Doc(sample.Field(sample.Letters(23), sample.Int(23)), sample.Field(sample.Letters(24), sample.Int(24)))
	x := w.built(v)
	for n, want := range map[int]string{22: "false", 23: "true", 24: "true", 25: "false"} {
		y, ok, e := doc.Step(w.heap, x, sample.Letters(n))
		w.says("a name", text(ok, e), want, api.OK)
		if ok {
			w.reads("its value", y, sample.Int(int64(n)))
		}
	}
}

// P12.2: handles that are not live, whatever the step.
func TestStepStale(t *testing.T) {
	w := empty(t, 100, 30)
	null, gone := w.null(), w.freed()
	for _, x := range []uint64{0, 1, 99, gone, null + 1<<32, 1<<64 - 1} {
		for _, s := range stepsTried() {
			w.says("Step", w.steps(x, s), 0, false, api.ErrStale)
		}
	}
}

// P12.2: objects that are no value's lead nowhere, and are no error.
func TestStepOfOthers(t *testing.T) {
	w := empty(t, 5000, 900)
	null, a, b := w.null(), w.name("a"), w.name("b")
	both := []uint64{a, null}
	for what, x := range map[string]uint64{
		"tag 7": w.object(7, nil), "tag 7 like a list": w.object(7, both), "tag 20": w.object(20, both, 1), "tag 255": w.object(255, both), "tag 1 with refs": w.object(1, both), "tag 4 with refs": w.object(4, both, 0),
		"a list with a word": w.object(5, both, 1), "a list with a word alone": w.object(5, nil, 1), "a doc with a word": w.object(6, both, 1), "a doc of one ref": w.fields(a), "a doc of three refs": w.fields(a, null, b),
		"a name that is none": w.fields(null, null), "a second name that is none": w.fields(a, null, null, null), "a first name that is none": w.fields(w.list(a), null, a, null), "an int of 0 as a name": w.fields(w.object(3, nil, 0), null, a, null), "a name of tag 7": w.fields(a, null, w.object(7, nil, 1, 98), null),
		"a name that is not filled up": w.fields(w.object(4, nil, 1, 97+256), null), "a name of other words": w.fields(w.object(4, nil, 1, 97, 0), null), "a name of 0": w.fields(a, null, 0, null), "a name of very many": w.fields(a, null, w.object(4, nil, 1<<63), null),
		"0 in a list": w.list(0), "0 in a doc": w.fields(a, 0),
	} {
		for _, s := range stepsTried() {
			w.says(what+": "+s, w.steps(x, s), 0, false, api.OK)
		}
	}
}

// P12.2: a part that is not live is nowhere.
func TestStepToStale(t *testing.T) {
	w := empty(t, 100, 30)
	null, part, a := w.null(), w.null(), w.name("a")
	l := []uint64{w.list(part), w.fields(a, part), w.fields(part, null), w.fields(a, null, part, null)}
	w.fine(w.heap.Table().Free(part))
	for _, x := range l {
		for _, s := range stepsTried() {
			w.says("Step", w.steps(x, s), 0, false, api.OK)
		}
	}
}

// P12.2: Step looks at what it needs: the rest of a value may be whatever it is.
func TestStepLooksNear(t *testing.T) {
	w := empty(t, 5000, 900)
	null, a, b, bad := w.null(), w.name("a"), w.name("b"), w.object(7, nil)
	ring := w.list(null, 0)
	w.fine(w.heap.SetRef(ring, 1, ring))
	deep := null
	for range 20 {
		deep = w.list(deep)
	}
	below, _ := w.heap.Ref(deep, 0)
	for _, c := range []struct {
		x    uint64
		step string
		want uint64
	}{
		{ring, "0", null}, {ring, "1", ring}, {deep, "0", below}, {w.times(99, null), "98", null},
		{w.fields(a, bad, b, null), "b", null}, {w.fields(a, bad, b, 0), "a", bad}, {w.list(0, null), "1", null},
		{w.fields(b, null, a, bad), "a", bad}, {w.fields(b, null, a, bad), "b", null}, {w.fields(a, bad, a, null), "a", bad},
	} {
		w.says(text("Step", c.x, c.step), w.steps(c.x, c.step), c.want, true, api.OK)
	}
}

// P12.2: steps one behind the other lead where a path leads.
func TestStepByStep(t *testing.T) {
	w := empty(t, 60000, 9000)
	for _, v := range append(good(), val(t, `{"a":[1,{"b":[[7]]}],"c":"x"}`)) {
		x := w.built(v)
		for _, p := range []string{"a.1.b.0.0", "a.0", "a.2", "aa.0.1", "aa.1.bb.2", "aa.1.bb.3", "bb.aa.0", "c.q", "0.0.0.0.0.0.0", "a.a.a.a.a.a.a", "2.1.0", "3.0"} {
			steps, e := path.Steps(p)
			w.fine(e)
			at, ok := x, true
			for _, s := range steps {
				if ok {
					at, ok, e = doc.Step(w.heap, at, s)
					w.fine(e)
				}
			}
			want, there := path.Get(v, p)
			w.says(p, text(ok), there)
			if there {
				w.reads(p, at, want)
			}
		}
	}
}
