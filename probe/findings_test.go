package probe_test

import (
	"slices"
	"testing"

	"conjoin/api"
	"conjoin/oracle"
	"conjoin/probe"
	"conjoin/sure"
)

func TestExamplesOfFindings(t *testing.T) {
	x := bell()
	want(t, "outcomes", all(probe.Outcomes(x.c, x.l, []int{0, 2})), all([][]int{{0, 0}, {0, 1}, {1, 0}, {1, 1}}, api.OK))
	want(t, "no probes", all(probe.Outcomes(x.c, x.l, nil)), all([][]int{nil}, api.OK))
	after := bell().c
	after.Parts[1].Span = api.Span{Low: 23, High: 30, LowBy: 32, HighBy: 4}
	want(t, "after", all(probe.After(x.c, x.l, []int{1}, []int{1})), all(after, true, api.OK))
	want(t, "nothing found", all(probe.After(x.c, x.l, nil, nil)), all(x.c, true, api.OK))
	want(t, "no colour", all(probe.After(x.c, x.l, []int{0, 1}, []int{1, 0})), all(api.Case{}, false, api.OK))
	want(t, "no colour", all(probe.Can(x.c, x.l, []int{0, 1}, []int{1, 0})), all(false, api.OK))
	want(t, "no colour", all(probe.Settled(x.c, x.l, []int{0, 1}, []int{1, 0})), all([]api.Pair{}, api.ErrProbe))
	want(t, "settled", all(probe.Settled(x.c, x.l, []int{1}, []int{0})), all([]api.Pair{{A: 0, B: 1}, {A: 1, B: 2}}, api.OK))
	want(t, "nothing settled", all(probe.Settled(x.c, x.l, nil, nil)), all([]api.Pair{}, api.OK))
	want(t, "nothing settled", all(probe.Settled(x.c, x.l, []int{2}, []int{0})), all([]api.Pair{}, api.OK))
	want(t, "settled", all(probe.Settled(x.c, x.l, []int{2}, []int{1})), all([]api.Pair{{A: 0, B: 1}, {A: 1, B: 2}}, api.OK))
}

// TestGap is findings that there cannot be, although colours are left.
func TestGap(t *testing.T) {
	x := gap()
	after := gap().c
	after.Parts[1].Span = api.Span{Low: 21, High: 22, LowBy: 4, HighBy: 4}
	want(t, "no vessel", all(probe.After(x.c, x.l, []int{0}, []int{1})), all(after, true, api.OK))
	want(t, "no vessel", all(probe.Settled(x.c, x.l, []int{0}, []int{1})), all([]api.Pair{}, api.ErrProbe))
	for step, is := range []bool{true, false, false, true} {
		want(t, step, all(probe.Can(x.c, x.l, []int{0}, []int{step})), all(is, api.OK))
		for half := range 2 {
			want(t, all(step, half), all(probe.Can(x.c, x.l, []int{0, 2}, []int{step, half})), all(is && half == step/2, api.OK))
		}
	}
	x.c.Limit = 3
	want(t, "a third vessel", all(probe.Can(x.c, x.l, []int{0}, []int{1})), all(true, api.OK))
	// The steps are those of the Span before all findings, and the first probe that says so is the record.
	after.Limit = 3
	want(t, "both", all(probe.After(x.c, x.l, []int{0, 2}, []int{1, 0})), all(after, true, api.OK))
	after.Parts[1].Span = api.Span{Low: 23, High: 24, LowBy: 4, HighBy: 4}
	want(t, "both", all(probe.After(x.c, x.l, []int{0, 1, 2}, []int{2, 0, 1})), all(after, true, api.OK))
	slices.Reverse(x.l)
	after.Parts[1].Span = api.Span{Low: 23, High: 24, LowBy: 7, HighBy: 4}
	want(t, "reversed", all(probe.After(x.c, x.l, []int{0, 2}, []int{1, 2})), all(after, true, api.OK))
	after.Parts[1].Span = api.Span{Low: 21, High: 22, LowBy: 4, HighBy: 7}
	want(t, "reversed", all(probe.After(x.c, x.l, []int{0, 2}, []int{0, 1})), all(after, true, api.OK))
	// The ends of the Span stay as they are, whatever their records.
	after.Parts[1].Span = api.Span{Low: 19, High: 22, LowBy: 3, HighBy: 7}
	want(t, "the low end", all(probe.After(x.c, x.l, []int{0}, []int{0})), all(after, true, api.OK))
	after.Parts[1].Span = api.Span{Low: 23, High: 26, LowBy: 7, HighBy: 4}
	want(t, "the high end", all(probe.After(x.c, x.l, []int{0}, []int{1})), all(after, true, api.OK))
	want(t, "one step", all(probe.After(x.c, x.l, []int{1}, []int{0})), all(x.c, true, api.OK))
	want(t, "all colours", all(probe.After(row(2), five(1), []int{0, 4}, []int{0, 0})), all(row(2), true, api.OK))
}

// TestFindings is Outcomes, After and Can of I2 and I3, against the oracle.
func TestFindings(t *testing.T) {
	none, cannot, can := 0, 0, 0
	eachExam(t, 2, 2000, 5, 4, func(d dice, x *exam) {
		set := d.anySet(x)
		want(t, all(x, set), all(probe.Outcomes(x.c, x.l, set)), all(x.outcomes(set), api.OK))
		for _, findings := range x.outcomes(set) {
			c, left := x.after(set, findings)
			want(t, all(x, set, findings), all(probe.After(x.c, x.l, set, findings)), all(c, left, api.OK))
			want(t, all(x, set, findings), all(probe.Can(x.c, x.l, set, findings)), all(x.can(set, findings), api.OK))
			switch {
			case !left:
				none++
			case !x.can(set, findings):
				cannot++
			default:
				can++
			}
		}
	})
	if none < 800 || cannot < 200 || can < 3000 {
		t.Errorf("%d times no colour, %d times no reassembly, %d times there can be findings", none, cannot, can)
	}
}

// TestManyOutcomes is as many findings as there can be.
func TestManyOutcomes(t *testing.T) {
	var l []api.Probe
	for i := range 5 {
		l = append(l, api.Probe{Id: i + 1, Part: i, Width: 251, Cost: 1})
	}
	want(t, "1024", all(probe.Outcomes(row(8), l, []int{0, 1, 2, 3, 4})), all(oracle.Lists(5, 0, 3), api.OK))
	want(t, "256", all(probe.Outcomes(row(8), l, []int{0, 1, 3, 4})), all(oracle.Lists(4, 0, 3), api.OK))
}

// TestSettled is Settled of I4, and P9.6: it has all pairs of Reached that were open.
func TestSettled(t *testing.T) {
	some, none := 0, 0
	eachExam(t, 3, 3000, 5, 4, func(d dice, x *exam) {
		set := d.anySet(x)
		findings := d.anyFindings(x, set)
		if !x.can(set, findings) {
			none++
			want(t, all(x, set, findings), all(probe.Settled(x.c, x.l, set, findings)), all([]api.Pair{}, api.ErrProbe))
			return
		}
		settled := slices.DeleteFunc(x.two(), func(p api.Pair) bool {
			return !x.isOpen(p) || x.answer(set, findings, p.A, p.B) == api.SureOpen
		})
		want(t, all(x, set, findings), all(probe.Settled(x.c, x.l, set, findings)), all(settled, api.OK))
		c, _, _ := probe.After(x.c, x.l, set, findings)
		reached, e := sure.Reached(x.c, c)
		reached = slices.DeleteFunc(reached, func(p api.Pair) bool { return !x.isOpen(p) })
		want(t, all(x, set, findings), all(reached, e), all(settled, api.OK))
		if len(settled) > 1 && len(settled) < len(x.two()) {
			some++
		}
	})
	if some < 80 || none < 150 {
		t.Errorf("%d times some pairs, %d times ErrProbe", some, none)
	}
}

// TestCertain is the other half of P9.4: what is certain is so after all findings that there can be.
func TestCertain(t *testing.T) {
	certain := 0
	eachExam(t, 4, 400, 5, 3, func(d dice, x *exam) {
		set := d.anySet(x)
		before, e := sure.Answers(x.c)
		want(t, x, all(e), all(api.OK))
		for _, findings := range x.outcomes(set) {
			if is, _ := probe.Can(x.c, x.l, set, findings); !is {
				continue
			}
			c, _, _ := probe.After(x.c, x.l, set, findings)
			after, e := sure.Answers(c)
			want(t, all(x, set, findings), all(e), all(api.OK))
			for _, p := range x.two() {
				if answer := before[p.A][p.B]; answer != api.SureOpen {
					certain++
					want(t, all(x, set, findings, p), all(after[p.A][p.B]), all(answer))
				}
			}
		}
	})
	if certain < 1000 {
		t.Errorf("only %d certain answers", certain)
	}
}

// TestColours is P9.5: colours of the parts lie in the case after just one of the outcomes.
func TestColours(t *testing.T) {
	eachExam(t, 5, 400, 5, 4, func(d dice, x *exam) {
		set := d.anySet(x)
		outcomes, e := probe.Outcomes(x.c, x.l, set)
		want(t, all(x, set), all(e), all(api.OK))
		for range 5 {
			var colours []int
			for _, p := range x.c.Parts {
				colours = append(colours, oracle.OneOf(d, p.Span.Low, p.Span.High, p.Span.Low+d.IntN(p.Span.High-p.Span.Low+1)))
			}
			n := 0
			for _, findings := range outcomes {
				c, ok, _ := probe.After(x.c, x.l, set, findings)
				if ok && liesIn(colours, c) {
					n++
				}
			}
			want(t, all(x, set, colours), all(n), all(1))
		}
	})
}

// liesIn says whether colours are in the Spans of the parts of a case.
func liesIn(colours []int, c api.Case) bool {
	for i, p := range c.Parts {
		if colours[i] < p.Span.Low || colours[i] > p.Span.High {
			return false
		}
	}
	return true
}
