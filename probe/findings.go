package probe

import (
	"iter"
	"slices"

	"conjoin/api"
	"conjoin/sure"
)

// outcomes yields all findings for a set, in their order. It is one list that it yields, each time with other numbers.
func (s *study) outcomes(set []int) iter.Seq[[]int] {
	return func(yield func([]int) bool) { s.extend(set, make([]int, 0, len(set)), yield) }
}

// extend yields the findings for a set that begin with some, and reports whether more are wanted.
func (s *study) extend(set, findings []int, yield func([]int) bool) bool {
	if len(findings) == len(set) {
		return yield(findings)
	}
	for step := range s.stepsOf(set[len(findings)]) {
		if !s.extend(set, append(findings, step), yield) {
			return false
		}
	}
	return true
}

// after returns the case after findings for a set, which shares memory with the one before if the set is empty; false if no colour is left for some part.
func (s *study) after(set, findings []int) (api.Case, bool) {
	c := s.Case
	for i, p := range set {
		step := s.stepsOf(p)[findings[i]]
		less, e := sure.Narrow(c, s.probes[p].Part, step.Low, step.High, s.probes[p].Id)
		if e != api.OK {
			return api.Case{}, false
		}
		c = less
	}
	return c, true
}

// can reports whether there can be findings for a set.
func (s *study) can(set, findings []int) bool {
	c, ok := s.after(set, findings)
	if !ok {
		return false
	}
	_, ok, _ = sure.First(c)
	return ok
}

// count returns of how many findings for a set something is so.
func (s *study) count(set []int, isSo func(set, findings []int) bool) int {
	n := 0
	for findings := range s.outcomes(set) {
		if isSo(set, findings) {
			n++
		}
	}
	return n
}

// copied returns a case that shares no memory with another one.
func copied(c api.Case) api.Case {
	c.Parts = slices.Clone(c.Parts)
	for i, p := range c.Parts {
		c.Parts[i].Sherds, c.Parts[i].Rests = slices.Clone(p.Sherds), slices.Clone(p.Rests)
	}
	return c
}

// Outcomes returns all findings for a set.
func Outcomes(c api.Case, l []api.Probe, set []int) ([][]int, api.Errno) {
	s, e := studyOf(c, l, hasSet(set))
	if e != api.OK {
		return nil, e
	}
	var list [][]int
	for findings := range s.outcomes(set) {
		list = append(list, slices.Clone(findings))
	}
	return list, api.OK
}

// After returns the case after findings.
func After(c api.Case, l []api.Probe, set, findings []int) (api.Case, bool, api.Errno) {
	s, e := studyOf(c, l, hasFindings(set, findings))
	if e != api.OK {
		return api.Case{}, false, e
	}
	less, ok := s.after(set, findings)
	return copied(less), ok, api.OK
}

// Can reports whether there can be findings.
func Can(c api.Case, l []api.Probe, set, findings []int) (bool, api.Errno) {
	s, e := studyOf(c, l, hasFindings(set, findings))
	if e != api.OK {
		return false, e
	}
	return s.can(set, findings), api.OK
}

// Settled returns the open pairs that are not open any more after findings.
func Settled(c api.Case, l []api.Probe, set, findings []int) ([]api.Pair, api.Errno) {
	s, e := studyOf(c, l, hasFindings(set, findings))
	if e != api.OK {
		return nil, e
	}
	if !s.can(set, findings) {
		return nil, api.ErrProbe
	}
	less, _ := s.after(set, findings)
	open, _ := sure.Open(c)
	still, _ := sure.Open(less)
	return slices.DeleteFunc(open, func(p api.Pair) bool { return slices.Contains(still, p) }), api.OK
}
