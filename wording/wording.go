// Package wording: the texts of statements and conditions, for the layers that print them or ask whether a text tells them.
package wording

import (
	"tidemark/api"
	"tidemark/lex"
)

// Stmt is the text of the statement x; empty, if there is none. What does not belong together is written all the same.
func Stmt(x api.Stmt) string { return text(func(w *writer) { w.stmt(x) }) }

// Cond is the text of the condition c likewise.
func Cond(c api.Cond) string { return text(func(w *writer) { w.cond(c) }) }

// text is the text of the tokens that write writes.
func text(write func(*writer)) (s string) {
	defer func() {
		if thrown := recover(); thrown != nil {
			s = textOf(thrown)
		}
	}()
	w := writer{}
	write(&w)
	s, _ = lex.Print(w.l)
	return s
}

// textOf is what was thrown as a text: none.
func textOf(thrown any) string {
	if _, ok := thrown.(tooMany); ok {
		return ""
	}
	// Told as a text that there is not, it would hide a fault of the program.
	panic(thrown)
}
