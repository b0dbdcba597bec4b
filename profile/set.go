package profile

import (
	"iter"
	"math/bits"
	"slices"
)

// classes is how many classes of curves there are.
const classes = 26

// set is some classes: the lowest bit stands for the class a, the next one for b, and so on.
type set uint32

// every is all classes.
const every set = 1<<classes - 1

// one returns the set of a class alone; none for a byte that is no class.
func one(c byte) set {
	if c < 'a' || c > 'z' {
		return 0
	}
	return 1 << (c - 'a')
}

// setOf returns the classes that a string has.
func setOf(s string) set {
	var all set
	for i := range len(s) {
		all |= one(s[i])
	}
	return all
}

// all yields the classes of a set, ascending.
func (s set) all() iter.Seq[byte] {
	return func(yield func(byte) bool) {
		for left := s; left != 0; left &= left - 1 {
			if !yield('a' + byte(bits.TrailingZeros32(uint32(left)))) {
				return
			}
		}
	}
}

// letters returns the classes of a set as a string, ascending.
func (s set) letters() string { return string(slices.Collect(s.all())) }

// spread returns what a function returns for the classes of a set, taken together.
func (s set) spread(next func(byte) set) set {
	var all set
	for c := range s.all() {
		all |= next(c)
	}
	return all
}

// inOrder returns the classes that a string has, ascending, each once: the string itself exactly if it is one of classes, strictly ascending.
func inOrder(s string) string { return setOf(s).letters() }
