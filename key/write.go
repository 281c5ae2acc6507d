package key

import "tidemark/api"

// The bytes that stand for something else than themselves.
const (
	perKind = 10  // what a Kind is multiplied by
	end     = 0   // behind the last part
	part    = 1   // ahead of each part
	nought  = 255 // behind a byte 0 that is of the text itself
)

// least is the number that an Int's bytes are counted from, so that none is below 0.
const least = -1 << 63

// writer writes keys, one behind the other.
type writer struct{ b []byte }

// value writes the key of the good value v.
func (w *writer) value(v api.Val) {
	w.put(byte(perKind * v.Kind))
	write := w.rest(v.Kind)
	write(v)
}

// rest tells what writes that which stands behind the byte of a Kind.
func (w *writer) rest(kind int) func(api.Val) {
	switch kind {
	case api.Bool:
		return w.truth
	case api.Int:
		return w.number
	case api.Text:
		return w.text
	case api.List:
		return w.list
	case api.Doc:
		return w.doc
	}
	return w.nothing
}

// put writes bytes as they are.
func (w *writer) put(b ...byte) { w.b = append(w.b, b...) }

func (w *writer) nothing(api.Val) {}

func (w *writer) truth(v api.Val) { w.put(byte(v.N)) }

func (w *writer) number(v api.Val) {
	n := uint64(v.N - least)
	for shift := 56; shift >= 0; shift -= 8 {
		w.put(byte(n >> shift))
	}
}

func (w *writer) text(v api.Val) { w.letters(v.S) }

func (w *writer) list(v api.Val) {
	for _, x := range v.L {
		w.put(part)
		w.value(x)
	}
	w.put(end)
}

func (w *writer) doc(v api.Val) {
	for _, f := range v.F {
		w.put(part)
		w.letters(f.Name)
		w.value(f.V)
	}
	w.put(end)
}

// letters writes a text or a name. Its end is less than any byte that goes on: so a beginning is ahead.
func (w *writer) letters(s string) {
	for i := range len(s) {
		w.put(s[i])
		if s[i] == 0 {
			w.put(nought)
		}
	}
	w.put(0, end)
}
