// Package quoted: a quoted text at the beginning of others, for the layers that read texts in which such ones stand.
package quoted

import (
	"tidemark/api"
	"tidemark/utf"
)

// Take reads the quoted text with which s begins, and tells how many bytes it has there. With ErrSyntax it is none.
func Take(s string) (text string, n int, e api.Errno) {
	n = size(s)
	text, e = utf.Unquote(s[:n])
	switch e {
	case api.OK:
		return text, n, api.OK
	case api.ErrForm:
		return "", 0, api.ErrSyntax
	}
	return "", 0, e
}

// size tells how many bytes the quoted text has that s begins with: all that there are, if it has no end.
func size(s string) int {
	behind := false // a `\`, so that the character stands for no end
	for i, c := range s {
		switch {
		case behind:
			behind = false
		case c == '\\':
			behind = true
		case c == '"' && i > 0:
			return i + 1
		}
	}
	return len(s)
}
