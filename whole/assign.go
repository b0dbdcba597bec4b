package whole

import (
	"slices"

	"conjoin/api"
)

// numbers returns the least and the greatest number of vessels of a reassembly.
func (v *view) numbers() (low, high int, ok bool) {
	low, high = v.least(), len(v.Parts)
	if v.Limit != 0 {
		high = min(high, v.Limit)
	}
	if low > high {
		return 0, 0, false
	}
	return low, high, true
}

// assign returns a reassembly with a number of vessels that one has: the vessels that there must be are filled one after another, as long as parts have to share one.
func (v *view) assign(n int) []int {
	with := make([]int, len(v.Parts)) // a part of the vessel of each part
	for p := range with {
		with[p] = p
	}
	sharing := len(v.Parts) - n
enough:
	for vessel := range v.vessels() {
		for _, p := range vessel[1:] {
			if sharing == 0 {
				break enough
			}
			with[p] = vessel[0]
			sharing--
		}
	}
	return numbered(with)
}

// numbered returns a number instead of each name in a list: how many other names there are before its first place.
func numbered(names []int) []int {
	numbers := map[int]int{}
	list := make([]int, len(names))
	for i, name := range names {
		n, there := numbers[name]
		if !there {
			n = len(numbers)
			numbers[name] = n
		}
		list[i] = n
	}
	return list
}

// isAssign reports whether a list is a reassembly.
func (v *view) isAssign(l []int) bool {
	if len(l) != len(v.Parts) {
		return false
	}
	vessels := 0
	for a, n := range l {
		if n < 0 || n > vessels {
			return false
		}
		vessels = max(vessels, n+1)
		for b := range a {
			if l[b] == n && v.clash(a, b) {
				return false
			}
		}
	}
	return v.Limit == 0 || vessels <= v.Limit
}

// joint returns the case in which two different parts that do not clash are one.
func (v *view) joint(a, b int) *view {
	return look(merged(v.Case, min(a, b), max(a, b)))
}

// isBar reports whether a list is a bar of two different parts.
func (v *view) isBar(a, b int, l []int) bool {
	if v.clash(a, b) {
		return len(l) == 0
	}
	return v.Limit != 0 && len(l) == v.Limit+1 && v.joint(a, b).isWitness(l)
}

// Numbers returns the least and the greatest number of vessels of a reassembly.
func Numbers(c api.Case) (low, high int, ok bool, e api.Errno) {
	v, e := viewOf(c)
	if e != api.OK {
		return 0, 0, false, e
	}
	low, high, ok = v.numbers()
	return low, high, ok, api.OK
}

// Assign returns a reassembly with a number of vessels.
func Assign(c api.Case, n int) ([]int, bool, api.Errno) {
	v, e := viewOf(c)
	if e != api.OK {
		return nil, false, e
	}
	low, high, ok := v.numbers()
	if !ok || !within(n, low, high) {
		return nil, false, api.OK
	}
	return v.assign(n), true, api.OK
}

// CheckAssign reports whether a list is a reassembly.
func CheckAssign(c api.Case, v []int) (bool, api.Errno) {
	seen, e := viewOf(c)
	if e != api.OK {
		return false, e
	}
	return seen.isAssign(v), api.OK
}

// Colours returns the colours that each vessel of a reassembly can have had.
func Colours(c api.Case, v []int) ([]api.Range, api.Errno) {
	seen, e := viewOf(c)
	if e != api.OK {
		return nil, e
	}
	if !seen.isAssign(v) {
		return nil, api.ErrArg
	}
	var vessels [][]int
	for p, n := range v {
		if n == len(vessels) {
			vessels = append(vessels, nil)
		}
		vessels[n] = append(vessels[n], p)
	}
	var ranges []api.Range
	for _, vessel := range vessels {
		ranges = append(ranges, seen.common(vessel))
	}
	return ranges, api.OK
}

// Joint returns a reassembly in which two parts are of one vessel.
func Joint(c api.Case, a, b int) ([]int, bool, api.Errno) {
	v, e := viewOfTwo(c, a, b)
	if e != api.OK || v.clash(a, b) {
		return nil, false, e
	}
	one := v.joint(a, b)
	low, _, ok := one.numbers()
	if !ok {
		return nil, false, api.OK
	}
	l := one.assign(low)
	return slices.Insert(l, max(a, b), l[min(a, b)]), true, api.OK
}

// Bar returns what shows that two parts are of one vessel in no reassembly.
func Bar(c api.Case, a, b int) ([]int, bool, api.Errno) {
	v, e := viewOfTwo(c, a, b)
	if e != api.OK {
		return nil, false, e
	}
	if v.clash(a, b) {
		return nil, true, api.OK
	}
	witness := v.joint(a, b).witness()
	if v.Limit == 0 || len(witness) <= v.Limit {
		return nil, false, api.OK
	}
	return witness[: v.Limit+1 : v.Limit+1], true, api.OK
}

// CheckBar reports whether a list is a bar of two parts.
func CheckBar(c api.Case, a, b int, l []int) (bool, api.Errno) {
	v, e := viewOfTwo(c, a, b)
	if e != api.OK {
		return false, e
	}
	return v.isBar(a, b, l), api.OK
}
