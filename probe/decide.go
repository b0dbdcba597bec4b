package probe

import (
	"slices"

	"conjoin/api"
	"conjoin/sure"
)

// question is a case of which is asked whether two parts are of one vessel.
type question struct {
	*study
	api.Pair
}

// ask returns the question of two parts, for arguments that are as said, or the first error.
func ask(c api.Case, l []api.Probe, a, b int, areAsSaid ...func(*study) bool) (question, api.Errno) {
	areTwo := func(s *study) bool {
		return a != b && within(a, 0, len(s.Parts)-1) && within(b, 0, len(s.Parts)-1)
	}
	s, e := studyOf(c, l, append(areAsSaid, areTwo)...)
	return question{s, api.Pair{A: a, B: b}}, e
}

// answer returns the answer of the two parts after findings for a set; 0 if there cannot be these.
func (q question) answer(set, findings []int) uint8 {
	c, ok := q.after(set, findings)
	if !ok {
		return 0
	}
	answer, _ := sure.Answer(c, q.A, q.B)
	return answer
}

func (q question) isOpen(set, findings []int) bool { return q.answer(set, findings) == api.SureOpen }

// open returns the first findings for a set that leave the two parts open; false if the set decides them.
func (q question) open(set []int) ([]int, bool) {
	for findings := range q.outcomes(set) {
		if q.isOpen(set, findings) {
			return slices.Clone(findings), true
		}
	}
	return nil, false
}

func (q question) decides(set []int) bool {
	_, isOpen := q.open(set)
	return !isOpen
}

// verdict returns the verdict for findings for a set that do not leave the two parts open.
func (q question) verdict(set, findings []int) api.Verdict {
	v := api.Verdict{Findings: slices.Clone(findings), Answer: q.answer(set, findings)}
	c, ok := q.after(set, findings)
	switch {
	case v.Answer != 0:
		v.Proof, _, _ = sure.Refute(c, q.A, q.B, v.Answer == api.SureApart)
	case ok:
		v.Proof, _, _ = sure.None(c)
	}
	return v
}

// doubt returns a doubt for a set, with findings that leave the two parts open, which it keeps.
func (q question) doubt(set, findings []int) api.Open {
	c, _ := q.after(set, findings)
	d := api.Open{Probes: slices.Clone(set), Findings: findings}
	d.Together, _, _ = sure.With(c, q.A, q.B, true)
	d.Apart, _, _ = sure.With(c, q.A, q.B, false)
	return d
}

// Decides reports whether a set decides two parts.
func Decides(c api.Case, l []api.Probe, a, b int, set []int) (bool, api.Errno) {
	q, e := ask(c, l, a, b, hasSet(set))
	if e != api.OK {
		return false, e
	}
	return q.decides(set), api.OK
}

// Verdicts returns verdicts of two parts for a set.
func Verdicts(c api.Case, l []api.Probe, a, b int, set []int) ([]api.Verdict, bool, api.Errno) {
	q, e := ask(c, l, a, b, hasSet(set))
	if e != api.OK || !q.decides(set) {
		return nil, false, e
	}
	var list []api.Verdict
	for findings := range q.outcomes(set) {
		list = append(list, q.verdict(set, findings))
	}
	return list, true, api.OK
}

// Doubt returns a doubt of two parts for a set, and the first findings that leave them open.
func Doubt(c api.Case, l []api.Probe, a, b int, set []int) (api.Open, bool, api.Errno) {
	q, e := ask(c, l, a, b, hasSet(set))
	if e != api.OK {
		return api.Open{}, false, e
	}
	findings, ok := q.open(set)
	if !ok {
		return api.Open{}, false, api.OK
	}
	return q.doubt(set, findings), true, api.OK
}

// Worth returns how many of the findings of a probe alone that there can be decide two parts, and how many there can be.
func Worth(c api.Case, l []api.Probe, a, b, probe int) (decided, all int, e api.Errno) {
	set := []int{probe}
	q, e := ask(c, l, a, b, hasSet(set))
	if e != api.OK {
		return 0, 0, e
	}
	all = q.count(set, q.can)
	return all - q.count(set, q.isOpen), all, api.OK
}
