package sure

import (
	"slices"

	"conjoin/api"
)

// answer returns the answer of two parts; 0 if there is no reassembly. SureOpen is the bits of the other two: the two parts are together in some, and apart in others.
func (v *view) answer(a, b int) uint8 {
	answer := uint8(0)
	for l := range v.reassemblies() {
		if l[a] == l[b] {
			answer |= api.SureTogether
		} else {
			answer |= api.SureApart
		}
		if answer == api.SureOpen {
			break
		}
	}
	return answer
}

// Answer returns whether two parts are certainly together, certainly apart, or open.
func Answer(c api.Case, a, b int) (uint8, api.Errno) {
	v, e := wholeViewOf(c, a, b)
	if e != api.OK {
		return 0, e
	}
	return v.answer(a, b), api.OK
}

// Answers returns for each part its answers with all parts.
func Answers(c api.Case) ([][]uint8, api.Errno) {
	v, e := wholeViewOf(c)
	if e != api.OK {
		return nil, e
	}
	answers := make([][]uint8, len(v.Parts))
	for a := range v.Parts {
		for b := range v.Parts {
			answers[a] = append(answers[a], v.answer(a, b))
		}
	}
	return answers, api.OK
}

// Open returns the open pairs.
func Open(c api.Case) ([]api.Pair, api.Errno) {
	v, e := wholeViewOf(c)
	if e != api.OK {
		return nil, e
	}
	var open []api.Pair
	for p := range pairs(len(v.Parts)) {
		if v.answer(p.A, p.B) == api.SureOpen {
			open = append(open, p)
		}
	}
	return open, api.OK
}

// Certain returns the parts in classes that are certainly together.
func Certain(c api.Case) ([][]int, api.Errno) {
	v, e := wholeViewOf(c)
	if e != api.OK {
		return nil, e
	}
	var classes [][]int
	for p := range v.Parts {
		i := slices.IndexFunc(classes, func(class []int) bool { return v.answer(class[0], p) == api.SureTogether })
		if i < 0 {
			classes = append(classes, []int{p})
		} else {
			classes[i] = append(classes[i], p)
		}
	}
	return classes, api.OK
}
