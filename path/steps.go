package path

import (
	"tidemark/api"
	"tidemark/naming"
)

// maxSteps is how many steps a path may have, longest how many bytes.
const (
	maxSteps = 8
	longest  = maxSteps*(api.MaxName+1) - 1
)

// Steps tells the steps of the path p.
func Steps(p string) ([]string, api.Errno) {
	if len(p) > longest {
		return nil, api.ErrSyntax
	}
	var steps []string
	// One more '.' ends the last step as the others are ended, and lays the steps into new memory.
	p += "."
	begin := 0
	for i, r := range p {
		if r != '.' {
			continue
		}
		step := p[begin:i]
		if !isStep(step) || len(steps) == maxSteps {
			return nil, api.ErrSyntax
		}
		steps = append(steps, step)
		begin = i + 1
	}
	return steps, api.OK
}

// isStep tells whether s is a name or a place.
func isStep(s string) bool {
	_, ok := naming.Place(s)
	return ok || naming.IsName(s)
}
