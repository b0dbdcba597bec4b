package probe_test

import (
	"fmt"
	"math"
	"slices"
	"testing"

	"conjoin/api"
	"conjoin/oracle"
	"conjoin/probe"
	"conjoin/sure"
)

func TestExamplesOfDeciding(t *testing.T) {
	x := bell()
	for _, y := range []struct {
		a, b int
		set  []int
		is   bool
	}{
		{0, 1, []int{1}, true}, {1, 0, []int{1}, true}, {2, 1, []int{1}, true}, {0, 1, []int{0, 2}, false}, {0, 1, []int{0}, false}, {0, 1, []int{2}, false},
		{0, 1, nil, false}, {0, 1, []int{0, 1, 2}, true}, {0, 1, []int{0, 1}, true}, {0, 2, nil, true}, {2, 0, []int{0, 2}, true},
	} {
		want(t, y, all(probe.Decides(x.c, x.l, y.a, y.b, y.set)), all(y.is, api.OK))
	}
	v, ok, e := probe.Verdicts(x.c, x.l, 0, 1, []int{1})
	want(t, "verdicts", all(len(v), x.areVerdicts([]int{1}, 0, 1, v), ok, e), all(2, true, true, api.OK))
	want(t, "verdicts", all(v[0].Answer, v[1].Answer), all(api.SureTogether, api.SureApart))
	want(t, "no verdicts", all(probe.Verdicts(x.c, x.l, 0, 1, []int{0, 2})), all([]api.Verdict{}, false, api.OK))
	want(t, "no doubt", all(probe.Doubt(x.c, x.l, 0, 1, []int{1})), all(api.Open{}, false, api.OK))
	want(t, "doubt", all(probe.Doubt(x.c, x.l, 0, 1, []int{0, 2})), all(api.Open{Probes: []int{0, 2}, Findings: []int{0, 0}, Together: []int{0, 0, 1}, Apart: []int{0, 1, 1}}, true, api.OK))
	for p, worth := range [][2]int{{1, 2}, {2, 2}, {1, 2}} {
		want(t, p, all(probe.Worth(x.c, x.l, 0, 1, p)), all(worth[0], worth[1], api.OK))
	}
	x = gap()
	for p, worth := range [][2]int{{2, 2}, {0, 1}, {2, 2}} {
		want(t, p, all(probe.Worth(x.c, x.l, 1, 2, p)), all(worth[0], worth[1], api.OK))
	}
}

// TestOneOfTheTwo is Decides, Verdicts and Doubt of I5 and I6, and P9.2.
func TestOneOfTheTwo(t *testing.T) {
	decided, open, later, cannot := 0, 0, 0, 0
	eachTwo(t, 11, 300, 5, 3, func(d dice, x *exam, a, b int) {
		for _, set := range x.sets() {
			what := all(x, a, b, set)
			findings := x.open(set, a, b)
			is := len(findings) == 0
			want(t, what, all(probe.Decides(x.c, x.l, a, b, set)), all(is, api.OK))
			v, ok, e := probe.Verdicts(x.c, x.l, a, b, set)
			want(t, what, all(ok, e, x.areVerdicts(set, a, b, v)), all(is, api.OK, is))
			want(t, what, all(probe.CheckVerdicts(x.c, x.l, a, b, set, v)), all(is, api.OK))
			o, ok, e := probe.Doubt(x.c, x.l, a, b, set)
			want(t, what, all(ok, e), all(!is, api.OK))
			if is {
				decided++
				want(t, what, all(o), all(api.Open{}))
				if slices.ContainsFunc(x.outcomes(set), func(f []int) bool { return !x.can(set, f) }) {
					cannot++
				}
				continue
			}
			open++
			if slices.Max(append(findings[0], 0)) > 0 {
				later++
			}
			want(t, what, all(o.Probes, o.Findings, x.isDoubt(a, b, o), v), all(set, findings[0], true, []api.Verdict{}))
			want(t, what, all(probe.CheckDoubt(x.c, x.l, a, b, o)), all(true, api.OK))
		}
	})
	if decided < 1500 || open < 1000 || later < 150 || cannot < 300 {
		t.Errorf("%d decided, %d with findings that cannot be; %d open, %d not with the first findings", decided, cannot, open, later)
	}
}

// TestMoreProbes is P9.4: what a set decides, a wider one decides.
func TestMoreProbes(t *testing.T) {
	wider := 0
	eachTwo(t, 12, 400, 5, 4, func(d dice, x *exam, a, b int) {
		some, more := d.anySet(x), d.anySet(x)
		if !isIn(some, more) {
			some = slices.DeleteFunc(slices.Clone(more), func(p int) bool { return !slices.Contains(some, p) })
		}
		is, _ := probe.Decides(x.c, x.l, a, b, some)
		also, _ := probe.Decides(x.c, x.l, a, b, more)
		if is && !also {
			t.Errorf("%v: %d and %d are decided by %v, and not by %v", x, a, b, some, more)
		}
		if is && len(more) > len(some) {
			wider++
		}
	})
	if wider < 100 {
		t.Errorf("only %d wider sets", wider)
	}
}

// TestWorth is Worth of I7, against the oracle.
func TestWorth(t *testing.T) {
	seen := map[string]int{}
	eachTwo(t, 13, 400, 5, 3, func(d dice, x *exam, a, b int) {
		for p := range x.l {
			decided, all := 0, 0
			for _, f := range x.outcomes([]int{p}) {
				switch x.answer([]int{p}, f, a, b) {
				case api.SureOpen:
					all++
				case api.SureTogether, api.SureApart:
					all++
					decided++
				}
			}
			seen[fmt.Sprint(decided < all, decided > 0, all < len(x.steps(p)))]++
			want(t, []any{x, a, b, p}, []any{probeWorth(x, a, b, p)}, []any{[3]int{decided, all, 0}})
		}
	})
	for _, s := range []string{"true true true", "true true false", "true false false", "false true true", "false true false"} {
		if seen[s] < 20 {
			t.Errorf("%s: only %d times", s, seen[s])
		}
	}
}

func probeWorth(x *exam, a, b, p int) [3]int {
	decided, all, e := probe.Worth(x.c, x.l, a, b, p)
	return [3]int{decided, all, int(e)}
}

// verdict is one with a proof that is written.
func verdict(t *testing.T, answer uint8, proof string, findings ...int) api.Verdict {
	t.Helper()
	return api.Verdict{Findings: findings, Answer: answer, Proof: branches(t, proof)}
}

func TestExamplesOfVerdicts(t *testing.T) {
	x := gap()
	first, last := verdict(t, 1, "0+1+2", 0), verdict(t, 2, "0=1", 3)
	none := func(step int) api.Verdict { return verdict(t, 0, "0+1+2", step) }
	for i, y := range []struct {
		v  []api.Verdict
		is bool
	}{
		{[]api.Verdict{first, none(1), none(2), last}, true},
		// What there cannot be may be said to be together, or apart, with a proof of that.
		{[]api.Verdict{first, verdict(t, 1, "0+1+2", 1), verdict(t, 2, "0=1", 2), last}, true},
		{[]api.Verdict{first, verdict(t, 2, "0+1+2", 1), verdict(t, 1, "1/2 1=2 0+1+2", 2), last}, true},
		{[]api.Verdict{first, verdict(t, 1, "0=1", 1), none(2), last}, false},
		{[]api.Verdict{first, verdict(t, 3, "0+1+2", 1), none(2), last}, false},
		{[]api.Verdict{first, verdict(t, 255, "0+1+2", 1), none(2), last}, false},
		{[]api.Verdict{first, verdict(t, 0, "", 1), none(2), last}, false},
		{[]api.Verdict{first, verdict(t, 0, "0=1", 1), none(2), last}, false},
		{[]api.Verdict{first, none(2), none(1), last}, false},
		{[]api.Verdict{first, none(1), last}, false},
		{[]api.Verdict{first, none(1), none(2)}, false},
		{[]api.Verdict{first, none(1), none(2), last, last}, false},
		{[]api.Verdict{first, none(1), none(2), last, {}}, false},
		{[]api.Verdict{none(0), none(1), none(2), last}, false},
		{[]api.Verdict{verdict(t, 2, "0=1", 0), none(1), none(2), last}, false},
		{[]api.Verdict{verdict(t, 2, "0+1+2", 0), none(1), none(2), last}, false},
		{[]api.Verdict{first, none(1), none(2), verdict(t, 1, "0=1", 3)}, false},
		{[]api.Verdict{first, none(1), none(2), verdict(t, 2, "0=1")}, false},
		{[]api.Verdict{first, none(1), none(2), verdict(t, 2, "0=1", 3, 0)}, false},
		{[]api.Verdict{first, none(1), none(2), verdict(t, 2, "0=1", 4)}, false},
		{nil, false},
		{make([]api.Verdict, 4), false},
	} {
		want(t, i, all(probe.CheckVerdicts(x.c, x.l, 0, 1, []int{0}, y.v)), all(y.is, api.OK))
		want(t, i, all(x.areVerdicts([]int{0}, 0, 1, y.v)), all(y.is))
	}
	lost := verdict(t, 0, "", 0, 1)
	for i, y := range []struct {
		v  api.Verdict
		is bool
	}{
		{lost, true}, {verdict(t, 1, "", 0, 1), false}, {verdict(t, 2, "", 0, 1), false}, {verdict(t, 0, "0+1+2", 0, 1), false},
		{verdict(t, 1, "0+1+2", 0, 1), false}, {verdict(t, 2, "0=1", 0, 1), false}, {verdict(t, 255, "", 0, 1), false}, {verdict(t, 0, "", 0, 2), false},
	} {
		var v []api.Verdict
		for step := range 4 {
			for half := range 2 {
				switch {
				case step == 0 && half == 1:
					v = append(v, y.v)
				case half != step/2:
					v = append(v, verdict(t, 0, "", step, half))
				case step == 0:
					v = append(v, verdict(t, 1, "0+1+2", 0, 0))
				default:
					v = append(v, verdict(t, 2, "0+1+2", step, half))
				}
			}
		}
		v[len(v)-1].Proof = branches(t, "0=1")
		want(t, i, all(probe.CheckVerdicts(x.c, x.l, 1, 0, []int{0, 2}, v)), all(y.is, api.OK))
	}
	want(t, "certain", all(probe.CheckVerdicts(x.c, x.l, 0, 2, nil, []api.Verdict{verdict(t, 2, "0=2")})), all(true, api.OK))
	want(t, "certain", all(probe.CheckVerdicts(x.c, x.l, 0, 2, nil, []api.Verdict{verdict(t, 1, "0=2")})), all(false, api.OK))
	want(t, "certain", all(probe.CheckVerdicts(x.c, x.l, 0, 2, nil, nil)), all(false, api.OK))
	want(t, "open", all(probe.CheckVerdicts(x.c, x.l, 0, 1, nil, []api.Verdict{verdict(t, 2, "0=1")})), all(false, api.OK))
}

// spoiltVerdicts are some with something else in them.
func (d dice) spoiltVerdicts(l []api.Verdict) []api.Verdict {
	l = slices.Clone(l)
	i, j := d.IntN(len(l)), d.IntN(len(l))
	v := &l[i]
	v.Findings, v.Proof = slices.Clone(v.Findings), slices.Clone(v.Proof)
	switch d.IntN(11) {
	case 0, 1:
		v.Answer = uint8(oracle.OneOf(d, 0, 1, 2, 3, 4, 255))
	case 2:
		if len(v.Findings) > 0 {
			v.Findings[d.IntN(len(v.Findings))] = oracle.OneOf(d, 0, 1, 2, 3, -1, math.MaxInt)
		}
	case 3:
		v.Findings = append(v.Findings, 0)
	case 4:
		v.Findings = v.Findings[:len(v.Findings)/2]
	case 5:
		l = slices.Delete(l, i, i+1)
	case 6:
		l = slices.Insert(l, i, l[j])
	case 7:
		l[i], l[j] = l[j], l[i]
	case 8:
		v.Proof = slices.Clone(l[j].Proof)
	case 9:
		v.Proof = append(v.Proof, api.Branch{Kind: api.LeafClash, A: math.MinInt, B: math.MaxInt})
	case 10:
		v.Answer, v.Proof = l[j].Answer, slices.Clone(l[j].Proof)
	}
	return l
}

// TestCheckVerdicts is CheckVerdicts of I5, and P9.2: if it accepts some list, the set decides.
func TestCheckVerdicts(t *testing.T) {
	yes, no := 0, 0
	eachTwo(t, 14, 500, 5, 3, func(d dice, x *exam, a, b int) {
		set := d.anySet(x)
		v, ok, _ := probe.Verdicts(x.c, x.l, a, b, set)
		if !ok {
			// Verdicts for another set, or of no open pair, are none for this one.
			v = make([]api.Verdict, len(x.outcomes(set)))
			for i, f := range x.outcomes(set) {
				v[i] = api.Verdict{Findings: f, Answer: uint8(d.IntN(3))}
				if c, left := x.after(set, f); left {
					v[i].Proof, _, _ = sure.Refute(c, a, b, v[i].Answer == api.SureApart)
				}
			}
		}
		for range 6 {
			v := d.spoiltVerdicts(v)
			is := x.areVerdicts(set, a, b, v)
			want(t, all(x, a, b, set, v), all(probe.CheckVerdicts(x.c, x.l, a, b, set, v)), all(is, api.OK))
			if !is {
				no++
				continue
			}
			yes++
			want(t, all(x, a, b, set, v), all(x.decides(set, a, b)), all(true))
		}
	})
	if yes < 300 || no < 3000 {
		t.Errorf("%d lists are verdicts, %d are not", yes, no)
	}
}

func TestExamplesOfDoubts(t *testing.T) {
	x := bell()
	for i, y := range []struct {
		d  api.Open
		is bool
	}{
		{api.Open{Probes: []int{0, 2}, Findings: []int{0, 0}, Together: []int{0, 0, 1}, Apart: []int{0, 1, 1}}, true},
		{api.Open{Probes: []int{0, 2}, Findings: []int{0, 0}, Together: []int{0, 1, 1}, Apart: []int{0, 0, 1}}, false},
		{api.Open{Probes: []int{0, 2}, Findings: []int{0, 0}, Together: []int{0, 0, 1}, Apart: []int{0, 0, 1}}, false},
		{api.Open{Probes: []int{0, 2}, Findings: []int{0, 0}, Together: []int{0, 1, 1}, Apart: []int{0, 1, 1}}, false},
		{api.Open{Probes: []int{0, 2}, Findings: []int{0, 0}, Together: []int{0, 0, 1}, Apart: []int{0, 1, 2}}, false},
		{api.Open{Probes: []int{0, 2}, Findings: []int{0, 0}, Together: []int{0, 0, 1}}, false},
		{api.Open{Probes: []int{0, 2}, Findings: []int{0, 0}, Apart: []int{0, 1, 1}}, false},
		{api.Open{Probes: []int{0, 2}, Findings: []int{0, 1}, Together: []int{0, 0, 1}, Apart: []int{0, 1, 1}}, false},
		{api.Open{Probes: []int{0, 2}, Findings: []int{0}, Together: []int{0, 0, 1}, Apart: []int{0, 1, 1}}, false},
		{api.Open{Probes: []int{0, 2}, Findings: []int{0, 0, 0}, Together: []int{0, 0, 1}, Apart: []int{0, 1, 1}}, false},
		{api.Open{Probes: []int{0, 2}, Findings: []int{0, 2}, Together: []int{0, 0, 1}, Apart: []int{0, 1, 1}}, false},
		{api.Open{Probes: []int{0, 2}, Findings: []int{-1, 0}, Together: []int{0, 0, 1}, Apart: []int{0, 1, 1}}, false},
		{api.Open{Probes: []int{2, 0}, Findings: []int{0, 0}, Together: []int{0, 0, 1}, Apart: []int{0, 1, 1}}, false},
		{api.Open{Probes: []int{0, 0}, Findings: []int{0, 0}, Together: []int{0, 0, 1}, Apart: []int{0, 1, 1}}, false},
		{api.Open{Probes: []int{0, 3}, Findings: []int{0, 0}, Together: []int{0, 0, 1}, Apart: []int{0, 1, 1}}, false},
		{api.Open{Probes: []int{math.MinInt}, Findings: []int{math.MaxInt}, Together: []int{0, 0, 1}, Apart: []int{0, 1, 1}}, false},
		{api.Open{Probes: []int{2}, Findings: []int{0}, Together: []int{0, 0, 1}, Apart: []int{0, 1, 1}}, true},
		{api.Open{Probes: []int{1}, Findings: []int{0}, Together: []int{0, 0, 1}, Apart: []int{0, 1, 1}}, false},
		{api.Open{Probes: []int{1}, Findings: []int{1}, Together: []int{0, 0, 1}, Apart: []int{0, 1, 1}}, false},
		{api.Open{Probes: []int{0, 1}, Findings: []int{1, 0}, Together: []int{0, 0, 1}, Apart: []int{0, 1, 1}}, false},
		{api.Open{Together: []int{0, 0, 1}, Apart: []int{0, 1, 1}}, true},
		{api.Open{Together: []int{0, 0, 1, 1}, Apart: []int{0, 1, 1}}, false},
		{api.Open{Together: []int{1, 1, 0}, Apart: []int{0, 1, 1}}, false},
		{api.Open{}, false},
	} {
		want(t, i, all(probe.CheckDoubt(x.c, x.l, 0, 1, y.d)), all(y.is, api.OK))
		want(t, i, all(probe.CheckDoubt(x.c, x.l, 1, 0, y.d)), all(y.is, api.OK))
		want(t, i, all(x.isDoubt(0, 1, y.d)), all(y.is))
	}
}

// spoiltDoubt is a doubt with something else in it.
func (d dice) spoiltDoubt(x *exam, o api.Open) api.Open {
	o = api.Open{Probes: slices.Clone(o.Probes), Findings: slices.Clone(o.Findings), Together: slices.Clone(o.Together), Apart: slices.Clone(o.Apart)}
	all := oracle.Reassemblies(x.c)
	lists := []*[]int{&o.Probes, &o.Findings, &o.Together, &o.Apart}
	l := lists[d.IntN(4)]
	switch d.IntN(8) {
	case 0:
		o.Probes = d.anySet(x)
	case 1:
		o.Probes = d.anySet(x)
		o.Findings = d.anyFindings(x, o.Probes)
	case 2:
		o.Together = all[d.IntN(len(all))]
	case 3:
		o.Apart = all[d.IntN(len(all))]
	case 4:
		if len(*l) > 0 {
			(*l)[d.IntN(len(*l))] = oracle.OneOf(d, 0, 1, 2, 3, 4, -1, math.MaxInt, math.MinInt)
		}
	case 5:
		*l = append(*l, d.IntN(5))
	case 6:
		*l = (*l)[:len(*l)/2]
	case 7:
		o.Together, o.Apart = o.Apart, o.Together
	}
	return o
}

// anyDoubt is a doubt for a set, if there is one, with any findings that leave two parts open, and any reassemblies.
func (d dice) anyDoubt(x *exam, set []int, a, b int) (api.Open, bool) {
	open := x.open(set, a, b)
	if len(open) == 0 {
		return api.Open{}, false
	}
	o := api.Open{Probes: set, Findings: open[d.IntN(len(open))]}
	l := x.reassemblies(set, o.Findings)
	for _, i := range d.Perm(len(l)) {
		if l[i][a] == l[i][b] {
			o.Together = l[i]
		} else {
			o.Apart = l[i]
		}
	}
	return o, true
}

// TestCheckDoubt is CheckDoubt of I6, and P9.2: if it accepts something, the set does not decide.
func TestCheckDoubt(t *testing.T) {
	yes, no := 0, 0
	eachTwo(t, 15, 500, 5, 3, func(d dice, x *exam, a, b int) {
		set := d.anySet(x)
		o, ok := d.anyDoubt(x, set, a, b)
		if ok {
			want(t, all(x, a, b, o), all(probe.CheckDoubt(x.c, x.l, a, b, o)), all(true, api.OK))
		} else {
			o.Probes, o.Findings = set, d.anyFindings(x, set)
		}
		for range 8 {
			o := d.spoiltDoubt(x, o)
			is := x.isDoubt(a, b, o)
			want(t, all(x, a, b, o), all(probe.CheckDoubt(x.c, x.l, a, b, o)), all(is, api.OK))
			if !is {
				no++
				continue
			}
			yes++
			want(t, all(x, a, b, o), all(x.decides(o.Probes, a, b)), all(false))
		}
	})
	if yes < 1000 || no < 5000 {
		t.Errorf("%d are doubts, %d are not", yes, no)
	}
}
