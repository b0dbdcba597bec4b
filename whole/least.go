package whole

import (
	"cmp"
	"iter"
	"slices"

	"conjoin/api"
)

// sorted sorts a list by a number that each element has; elements with one number stay in their order.
func sorted[T any](list []T, number func(T) int) []T {
	slices.SortStableFunc(list, func(a, b T) int { return cmp.Compare(number(a), number(b)) })
	return list
}

// chosen returns the parts of which something is so.
func (v *view) chosen(isSo func(api.Part) bool) []int {
	var parts []int
	for i, p := range v.Parts {
		if isSo(p) {
			parts = append(parts, i)
		}
	}
	return parts
}

// vessels yields vessels for all parts, no more of them than there must be. Each one begins with the part that is left whose colours end first: its vessel needs no other colour than the last one of these, since all parts that are left end there or later.
func (v *view) vessels() iter.Seq[[]int] {
	return func(yield func([]int) bool) {
		every := v.chosen(func(api.Part) bool { return true })
		left := sorted(every, func(p int) int { return v.Parts[p].Span.High })
		for len(left) > 0 {
			vessel, rest := v.take(left)
			if !yield(vessel) {
				return
			}
			left = rest
		}
	}
}

// take divides parts into those that make a vessel with the first one, and others. Of the parts with a foot it is the one that ends first that is taken, since the others can wait longer.
func (v *view) take(left []int) (vessel, rest []int) {
	for _, p := range left {
		if slices.ContainsFunc(vessel, func(q int) bool { return v.clash(p, q) }) {
			rest = append(rest, p)
		} else {
			vessel = append(vessel, p)
		}
	}
	return vessel, rest
}

func (v *view) least() int {
	n := 0
	for range v.vessels() {
		n++
	}
	return n
}

// demand returns how many vessels the parts in a range need at least.
func (v *view) demand(s api.Range) int {
	feet, one := 0, 0
	for r, n := range v.feet {
		if lies(r, s) {
			feet += n
			one = 1
		}
	}
	return max(feet, one)
}

func lies(r, s api.Range) bool { return s.Low <= r.Low && r.High <= s.High }

// show returns ranges, each with as many vessels as it demands, if the colour of a vessel is the last one of its first part. A range ends with such a part, which no vessel before could take. If the part has no foot, no vessel before has one of its colours. If it has one, each vessel before with one of its colours has the foot of another part, which ends no later; where that one begins sooner, so does the range. So the range demands a foot for each vessel in it.
func (v *view) show() []api.Range {
	made := slices.Collect(v.vessels())
	var ranges []api.Range
	for len(made) > 0 {
		last := len(made) - 1
		r := v.first(made[last])
		for last > 0 && v.first(made[last-1]).High >= r.Low {
			last--
			for _, p := range made[last] {
				if v.Parts[p].Foot {
					r.Low = min(r.Low, v.Parts[p].Span.Low)
				}
			}
		}
		ranges = append(ranges, r)
		made = made[:last]
	}
	slices.Reverse(ranges)
	return ranges
}

// first returns the colours of the first part of a vessel.
func (v *view) first(vessel []int) api.Range { return colours(v.Parts[vessel[0]]) }

// witness returns for each range of a show parts in it that clash: all that have a foot, or any one. Parts in different ranges have no colour in common.
func (v *view) witness() []int {
	var witness []int
	for _, s := range v.show() {
		parts := v.chosen(func(p api.Part) bool { return p.Foot && lies(colours(p), s) })
		if len(parts) == 0 {
			parts = v.chosen(func(p api.Part) bool { return lies(colours(p), s) })[:1]
		}
		witness = append(witness, parts...)
	}
	slices.Sort(witness)
	return witness
}

// isWitness reports whether some numbers are parts each two of which clash.
func (v *view) isWitness(l []int) bool {
	return isAscending(l, 0, len(v.Parts)-1) && !anyTwo(l, v.agree)
}

// Demand returns the demand of a range.
func Demand(c api.Case, s api.Range) (int, api.Errno) {
	v, e := viewOf(c)
	if e != api.OK {
		return 0, e
	}
	return v.demand(s), api.OK
}

// Least returns the least number of vessels, whatever the limit.
func Least(c api.Case) (int, api.Errno) {
	v, e := viewOf(c)
	if e != api.OK {
		return 0, e
	}
	return v.least(), api.OK
}

// Witness returns as many parts as there are vessels at least, no two of which can be of one vessel.
func Witness(c api.Case) ([]int, api.Errno) {
	v, e := viewOf(c)
	if e != api.OK {
		return nil, e
	}
	return v.witness(), api.OK
}

// CheckWitness reports whether a list is a witness.
func CheckWitness(c api.Case, l []int) (bool, api.Errno) {
	v, e := viewOf(c)
	if e != api.OK {
		return false, e
	}
	return v.isWitness(l), api.OK
}

// Show returns ranges of colours that demand as many vessels as there are at least.
func Show(c api.Case) ([]api.Range, api.Errno) {
	v, e := viewOf(c)
	if e != api.OK {
		return nil, e
	}
	return v.show(), api.OK
}

// CheckShow reports whether a list is ranges of colours that demand at least so many vessels.
func CheckShow(c api.Case, s []api.Range, n int) (bool, api.Errno) {
	v, e := viewOf(c)
	if e != api.OK {
		return false, e
	}
	sum, from := 0, 0
	for _, r := range s {
		if r.Low < from || r.Low > r.High || r.High > api.MaxColour {
			return false, api.OK
		}
		sum += v.demand(r)
		from = r.High + 1
	}
	return sum >= n, api.OK
}

// Critical returns the parts without which there can be fewer vessels.
func Critical(c api.Case) ([]int, api.Errno) {
	v, e := viewOf(c)
	if e != api.OK {
		return nil, e
	}
	n := v.least()
	var parts []int
	for a := range v.Parts {
		if look(without(c, a)).least() < n {
			parts = append(parts, a)
		}
	}
	return parts, api.OK
}
