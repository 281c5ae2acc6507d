package path

import "tidemark/api"

// maxSteps is how many steps a path may have, longest how many bytes.
const (
	maxSteps = 8
	longest  = maxSteps*(api.MaxName+1) - 1
)

// Steps tells the steps of the path p.
func Steps(p string) ([]string, api.Errno) {
	if len(p) > longest {
		return nil, api.ErrSyntax
	}
	var steps []string
	// One more '.' ends the last step as the others are ended, and lays the steps into new memory.
	p += "."
	begin := 0
	for i, r := range p {
		if r != '.' {
			continue
		}
		step := p[begin:i]
		if !isName(step) && !isPlace(step) || len(steps) == maxSteps {
			return nil, api.ErrSyntax
		}
		steps = append(steps, step)
		begin = i + 1
	}
	return steps, api.OK
}

func isName(s string) bool {
	for i, r := range s {
		if !isLetter(r) && (i == 0 || !isDigit(r)) {
			return false
		}
	}
	return s != "" && len(s) <= api.MaxName
}

func isPlace(s string) bool {
	for _, r := range s {
		if !isDigit(r) {
			return false
		}
	}
	return len(s) == 1 || len(s) == 2 && s[0] != '0'
}

// isLetter tells whether a name may begin with r.
func isLetter(r rune) bool { return 'a' <= r && r <= 'z' || 'A' <= r && r <= 'Z' || r == '_' }

func isDigit(r rune) bool { return '0' <= r && r <= '9' }
