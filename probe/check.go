package probe

import (
	"slices"

	"conjoin/api"
	"conjoin/sure"
)

// noProof is what the panic for a proof that fails carries.
type noProof struct{}

// insist gives up a proof unless something is so.
func insist(isSo bool) {
	if !isSo {
		panic(noProof{})
	}
}

// holds reports whether a check comes to its end.
func holds(check func()) (ok bool) {
	defer func() { ok = recover() == nil }()
	check()
	return true
}

// checkVerdicts gives up a list that is not verdicts for a set.
func (q question) checkVerdicts(set []int, v []api.Verdict) {
	for findings := range q.outcomes(set) {
		insist(len(v) > 0 && slices.Equal(v[0].Findings, findings))
		q.checkVerdict(set, v[0])
		v = v[1:]
	}
	insist(len(v) == 0)
}

// checkVerdict gives up what is no verdict for a set, with findings for it.
func (q question) checkVerdict(set []int, v api.Verdict) {
	c, ok := q.after(set, v.Findings)
	if !ok {
		insist(v.Answer == 0 && len(v.Proof) == 0)
		return
	}
	switch v.Answer {
	case 0:
		ok, _ = sure.CheckNone(c, v.Proof)
	case api.SureTogether, api.SureApart:
		ok, _ = sure.CheckRefute(c, q.A, q.B, v.Answer == api.SureApart, v.Proof)
	default:
		ok = false
	}
	insist(ok)
}

// checkDoubt gives up what is no doubt.
func (q question) checkDoubt(d api.Open) {
	insist(q.areFindings(d.Probes, d.Findings))
	c, ok := q.after(d.Probes, d.Findings)
	insist(ok)
	insist(fits(c, d.Together) && d.Together[q.A] == d.Together[q.B])
	insist(fits(c, d.Apart) && d.Apart[q.A] != d.Apart[q.B])
}

func fits(c api.Case, numbers []int) bool {
	ok, _ := sure.Fits(c, numbers)
	return ok
}

// checkProof gives up a list that does not show that no set which costs less decides the two parts.
func (q question) checkProof(cost int, d []api.Open) {
	for _, x := range d {
		q.checkDoubt(x)
	}
	for _, p := range q.plans() {
		isOfOne := func(x api.Open) bool { return isIn(p.Probes, x.Probes) }
		insist(p.Cost >= cost || slices.ContainsFunc(d, isOfOne))
	}
}

// isIn reports whether a set is in another one.
func isIn(set, other []int) bool {
	return !slices.ContainsFunc(set, func(p int) bool { return !slices.Contains(other, p) })
}

// CheckVerdicts reports whether a list is verdicts of two parts for a set.
func CheckVerdicts(c api.Case, l []api.Probe, a, b int, set []int, v []api.Verdict) (bool, api.Errno) {
	q, e := ask(c, l, a, b, hasSet(set))
	if e != api.OK {
		return false, e
	}
	return holds(func() { q.checkVerdicts(set, v) }), api.OK
}

// CheckDoubt reports whether something is a doubt of two parts.
func CheckDoubt(c api.Case, l []api.Probe, a, b int, d api.Open) (bool, api.Errno) {
	q, e := ask(c, l, a, b)
	if e != api.OK {
		return false, e
	}
	return holds(func() { q.checkDoubt(d) }), api.OK
}

// CheckProof reports whether a list is doubts of two parts that show that no set which costs less decides them.
func CheckProof(c api.Case, l []api.Probe, a, b, cost int, d []api.Open) (bool, api.Errno) {
	q, e := ask(c, l, a, b)
	if e != api.OK {
		return false, e
	}
	return holds(func() { q.checkProof(cost, d) }), api.OK
}
