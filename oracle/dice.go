package oracle

import (
	"slices"

	"conjoin/api"
)

// Source is the dice of a test, which are the same in every run.
type Source interface {
	IntN(n int) int
	Perm(n int) []int
}

// OneOf is one of some numbers.
func OneOf(d Source, l ...int) int { return l[d.IntN(len(l))] }

// some are numbers from 1 to a greatest one, each one taken once in so many times.
func some(d Source, most, times int) []int {
	var l []int
	for n := 1; n <= most; n++ {
		if d.IntN(times) == 0 {
			l = append(l, n)
		}
	}
	return l
}

// by is the record of what is so, or of none.
func by(d Source, isSo bool) int {
	if !isSo || d.IntN(5) == 0 {
		return 0
	}
	return 1 + d.IntN(50)
}

// anyParts have colours near each other, perhaps at an end of all colours.
func anyParts(d Source, n int) []api.Part {
	wide, times := OneOf(d, 4, n+2, 2*n+2, 3*n+2), OneOf(d, 1, 2, 4, 4, 8, 8, 1000)
	from, longest := OneOf(d, 0, 500, api.MaxColour-wide), OneOf(d, 1, 4, 1+wide/2, 1+wide/2, wide, wide)
	deck := d.Perm(4 * n)
	var l []api.Part
	for i := range n {
		p := api.Part{Rests: some(d, 9, 3), Foot: d.IntN(times) == 0}
		for _, id := range deck[4*i : 4*i+1+d.IntN(4)] {
			p.Sherds = append(p.Sherds, id+1)
		}
		slices.Sort(p.Sherds)
		low := from + d.IntN(wide+1)
		high := min(low+d.IntN(longest+1), from+wide)
		p.Span = api.Span{Low: low, High: high, LowBy: by(d, low > 0), HighBy: by(d, high < api.MaxColour)}
		p.FootBy = by(d, p.Foot)
		l = append(l, p)
	}
	return l
}

// AnyCase is a case with so many parts.
func AnyCase(d Source, n int) api.Case {
	c := api.Case{Ware: []string{"bell", "c", "jar-2"}[d.IntN(3)], Parts: anyParts(d, n)}
	if d.IntN(4) > 0 {
		c.Limit = 1 + d.IntN(min(n/2+1+d.IntN(n+1), api.MaxLimit))
		c.By = by(d, true)
	}
	return c
}
