// Package oracle says, for the tests of several packages, what is right: slowly, and by another way than these packages. It also makes the cases that some of them are tested with.
package oracle

import (
	"math"
	"slices"

	"conjoin/api"
)

// Far is a difference that nothing bounds. Two of them can be added.
const Far = math.MaxInt / 4

// Differences returns, in the row of each point, how much greater than its number those of all points can be; false if bounds contradict each other. Each round adds what leads by way of one point more.
func Differences(points int, bounds []api.Bound) ([][]int, bool) {
	m := make([][]int, points)
	for i := range m {
		m[i] = slices.Repeat([]int{Far}, points)
		m[i][i] = 0
	}
	for _, b := range bounds {
		m[b.From][b.To] = min(m[b.From][b.To], b.Most)
	}
	for k := range m {
		for i := range m {
			for j := range m {
				if m[i][k] < Far && m[k][j] < Far {
					m[i][j] = min(m[i][j], m[i][k]+m[k][j])
				}
			}
		}
	}
	for i := range m {
		if m[i][i] < 0 {
			return nil, false
		}
	}
	return m, true
}

// Lists are all lists of numbers of a length, each number from low to high.
func Lists(length, low, high int) [][]int {
	l := [][]int{nil}
	for range length {
		var longer [][]int
		for _, x := range l {
			for n := low; n <= high; n++ {
				longer = append(longer, append(slices.Clone(x), n))
			}
		}
		l = longer
	}
	return l
}
