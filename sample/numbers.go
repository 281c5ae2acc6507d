package sample

import "math"

// Numbers are these numbers, others of all kinds, and those beside each.
func Numbers(these ...int) []int {
	var l []int
	for _, list := range [][]int{these, {0, math.MinInt, math.MaxInt, 1 << 31, 1 << 32, -1 << 31}} {
		for _, n := range list {
			l = append(l, n-1, n, n+1)
		}
	}
	return l
}
