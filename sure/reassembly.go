package sure

import (
	"iter"

	"conjoin/api"
)

// reassemblies yields all reassemblies, in their order. It is one list that it yields, each time with other numbers.
func (v *view) reassemblies() iter.Seq[[]int] {
	return func(yield func([]int) bool) { v.extend(make([]int, 0, len(v.Parts)), 0, yield) }
}

// extend yields the reassemblies that begin with a list of so many vessels, and reports whether more are wanted.
func (v *view) extend(l []int, vessels int, yield func([]int) bool) bool {
	if len(l) == len(v.Parts) {
		return yield(l)
	}
	for n := range vessels + 1 {
		if v.takes(l, n) && !v.extend(append(l, n), max(vessels, n+1), yield) {
			return false
		}
	}
	return true
}

// takes reports whether a list can go on with a vessel.
func (v *view) takes(l []int, vessel int) bool {
	for p, n := range l {
		if n == vessel && v.clashes[p][len(l)] {
			return false
		}
	}
	return v.Limit == 0 || vessel < v.Limit
}

func (v *view) fits(l []int) bool {
	if len(l) != len(v.Parts) {
		return false
	}
	vessels := 0
	for p, n := range l {
		if !within(n, 0, vessels) || !v.takes(l[:p], n) {
			return false
		}
		vessels = max(vessels, n+1)
	}
	return true
}

// first returns the first reassembly of which something is so.
func (v *view) first(isSo func([]int) bool) ([]int, bool) {
	for l := range v.reassemblies() {
		if isSo(l) {
			return copied(l), true
		}
	}
	return nil, false
}

// whatever is so of each reassembly.
func whatever([]int) bool { return true }

// isWhole reports whether there is a reassembly.
func (v *view) isWhole() bool {
	_, ok := v.first(whatever)
	return ok
}

// Fits reports whether a list is a reassembly.
func Fits(c api.Case, numbers []int) (bool, api.Errno) {
	v, e := viewOf(c)
	if e != api.OK {
		return false, e
	}
	return v.fits(numbers), api.OK
}

// First returns the first reassembly.
func First(c api.Case) ([]int, bool, api.Errno) {
	v, e := viewOf(c)
	if e != api.OK {
		return nil, false, e
	}
	l, ok := v.first(whatever)
	return l, ok, api.OK
}

// Count returns how many reassemblies there are.
func Count(c api.Case) (int, api.Errno) {
	v, e := viewOf(c)
	if e != api.OK {
		return 0, e
	}
	n := 0
	for range v.reassemblies() {
		n++
	}
	return n, api.OK
}

// With returns the first reassembly in which two parts are together, or apart.
func With(c api.Case, a, b int, together bool) ([]int, bool, api.Errno) {
	v, e := viewOf(c, a, b)
	if e != api.OK {
		return nil, false, e
	}
	l, ok := v.first(func(l []int) bool { return (l[a] == l[b]) == together })
	return l, ok, api.OK
}
