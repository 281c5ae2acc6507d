package json

import (
	"strconv"
	"strings"

	"tidemark/api"
	"tidemark/utf"
)

// The words that stand for values.
const (
	null  = "null"
	truth = "true"
	lie   = "false"
)

// writeValue writes the good value v.
func writeValue(b *strings.Builder, v api.Val) {
	switch v.Kind {
	case api.Null:
		b.WriteString(null)
	case api.Bool:
		b.WriteString(wordOf(v.N))
	case api.Int:
		b.WriteString(strconv.FormatInt(v.N, 10))
	case api.Text:
		writeText(b, v.S)
	case api.List:
		writeList(b, v.L)
	case api.Doc:
		writeDoc(b, v.F)
	}
}

func wordOf(n int64) string {
	if n == 0 {
		return lie
	}
	return truth
}

func writeList(b *strings.Builder, l []api.Val) {
	b.WriteByte('[')
	for i, v := range l {
		writeComma(b, i)
		writeValue(b, v)
	}
	b.WriteByte(']')
}

func writeDoc(b *strings.Builder, l []api.Field) {
	b.WriteByte('{')
	for i, f := range l {
		writeComma(b, i)
		writeText(b, f.Name)
		b.WriteByte(':')
		writeValue(b, f.V)
	}
	b.WriteByte('}')
}

// writeComma parts the one of that number from the one ahead of it.
func writeComma(b *strings.Builder, i int) {
	if i > 0 {
		b.WriteByte(',')
	}
}

func writeText(b *strings.Builder, s string) {
	// A good value's texts are UTF-8: there is no error.
	q, _ := utf.Quote(s)
	b.WriteString(q)
}
