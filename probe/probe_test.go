package probe_test

import (
	"math"
	"testing"

	"conjoin/api"
	"conjoin/oracle"
	"conjoin/probe"
)

// row is a case of so many parts of any colour.
func row(n int) api.Case {
	c := api.Case{Ware: "bell"}
	for i := range n {
		c.Parts = append(c.Parts, api.Part{Sherds: []int{i + 1}, Span: api.Span{High: 1000}})
	}
	return c
}

// tight is a case with a limit for which there is no reassembly.
func tight() api.Case {
	c := bell().c
	c.Limit = 1
	return c
}

// TestCheckProbes is CheckProbes of I1, with what is just allowed, and what is not.
func TestCheckProbes(t *testing.T) {
	c := bell().c
	of := func(change func(p *api.Probe)) []api.Probe {
		p := api.Probe{Id: 31, Part: 1, Width: 12, Cost: 1}
		change(&p)
		return []api.Probe{p}
	}
	for name, x := range map[string]struct {
		l []api.Probe
		e api.Errno
	}{
		"none":             {nil, api.OK},
		"as it is":         {of(func(p *api.Probe) {}), api.OK},
		"id 1":             {of(func(p *api.Probe) { p.Id = 1 }), api.OK},
		"id 1000000":       {of(func(p *api.Probe) { p.Id = 1000000 }), api.OK},
		"id 0":             {of(func(p *api.Probe) { p.Id = 0 }), api.ErrArg},
		"id -1":            {of(func(p *api.Probe) { p.Id = -1 }), api.ErrArg},
		"id 1000001":       {of(func(p *api.Probe) { p.Id = 1000001 }), api.ErrArg},
		"id far":           {of(func(p *api.Probe) { p.Id = math.MaxInt }), api.ErrArg},
		"part 0":           {of(func(p *api.Probe) { p.Part = 0 }), api.OK},
		"part 2":           {of(func(p *api.Probe) { p.Part = 2 }), api.OK},
		"part 3":           {of(func(p *api.Probe) { p.Part = 3 }), api.ErrArg},
		"part -1":          {of(func(p *api.Probe) { p.Part = -1 }), api.ErrArg},
		"part far":         {of(func(p *api.Probe) { p.Part = math.MaxInt }), api.ErrArg},
		"part far below":   {of(func(p *api.Probe) { p.Part = math.MinInt }), api.ErrArg},
		"width 1001":       {of(func(p *api.Probe) { p.Width = 1001 }), api.OK},
		"width 1002":       {of(func(p *api.Probe) { p.Width = 1002 }), api.ErrArg},
		"width 0":          {of(func(p *api.Probe) { p.Width = 0 }), api.ErrArg},
		"width -1":         {of(func(p *api.Probe) { p.Width = -1 }), api.ErrArg},
		"width far":        {of(func(p *api.Probe) { p.Width = math.MaxInt }), api.ErrArg},
		"width far below":  {of(func(p *api.Probe) { p.Width = math.MinInt }), api.ErrArg},
		"cost 1000":        {of(func(p *api.Probe) { p.Cost = 1000 }), api.OK},
		"cost 1001":        {of(func(p *api.Probe) { p.Cost = 1001 }), api.ErrArg},
		"cost 0":           {of(func(p *api.Probe) { p.Cost = 0 }), api.ErrArg},
		"cost -1":          {of(func(p *api.Probe) { p.Cost = -1 }), api.ErrArg},
		"4 steps":          {of(func(p *api.Probe) { p.Width = 4 }), api.OK},
		"6 steps":          {of(func(p *api.Probe) { p.Width = 3 }), api.ErrLimit},
		"16 steps":         {of(func(p *api.Probe) { p.Width = 1 }), api.ErrLimit},
		"4 steps of 11":    {of(func(p *api.Probe) { p.Part, p.Width = 0, 3 }), api.OK},
		"6 steps of 11":    {of(func(p *api.Probe) { p.Part, p.Width = 0, 2 }), api.ErrLimit},
		"steps, cost 0":    {of(func(p *api.Probe) { p.Width, p.Cost = 1, 0 }), api.ErrArg},
		"steps, part 3":    {of(func(p *api.Probe) { p.Width, p.Part = 1, 3 }), api.ErrArg},
		"two of one part":  {append(bell().l[:1:1], of(func(p *api.Probe) { p.Id = 30 })...), api.OK},
		"one twice":        {append(bell().l[:1:1], bell().l[0]), api.ErrArg},
		"an Id twice":      {append(bell().l[:2:2], api.Probe{Id: 31, Part: 2, Width: 900, Cost: 7}), api.ErrArg},
		"steps, Id twice":  {append(bell().l[:2:2], api.Probe{Id: 31, Part: 2, Width: 1, Cost: 7}), api.ErrArg},
		"steps come first": {append(of(func(p *api.Probe) { p.Width = 1 }), api.Probe{}), api.ErrLimit},
		"args come first":  {append(of(func(p *api.Probe) { p.Id = 0 }), api.Probe{Id: 1, Part: 1, Width: 1, Cost: 1}), api.ErrArg},
		"the last one":     {append(bell().l[:3:3], api.Probe{}), api.ErrArg},
		"a zero one":       {make([]api.Probe, 1), api.ErrArg},
		"5 zero ones":      {make([]api.Probe, 5), api.ErrArg},
		"6 zero ones":      {make([]api.Probe, 6), api.ErrLimit},
		"1000 zero ones":   {make([]api.Probe, 1000), api.ErrLimit},
		"5 good ones":      {five(1), api.OK},
		"6 good ones":      {append(five(1), api.Probe{Id: 6, Width: 1001, Cost: 1}), api.ErrLimit},
	} {
		want(t, name, all(probe.CheckProbes(c, x.l)), all(x.e))
	}
	want(t, "the part 7", all(probe.CheckProbes(row(8), []api.Probe{{Id: 1, Part: 7, Width: 251, Cost: 1}})), all(api.OK))
	want(t, "5 steps of 1001", all(probe.CheckProbes(row(8), []api.Probe{{Id: 1, Part: 7, Width: 250, Cost: 1}})), all(api.ErrLimit))
	want(t, "the part 8", all(probe.CheckProbes(row(8), []api.Probe{{Id: 1, Part: 8, Width: 251, Cost: 1}})), all(api.ErrArg))
	want(t, "no parts", all(probe.CheckProbes(row(0), five(1))), all(api.ErrArg))
	want(t, "no parts, no probes", all(probe.CheckProbes(row(0), nil)), all(api.OK))
	want(t, "no reassembly", all(probe.CheckProbes(tight(), bell().l)), all(api.OK))
	want(t, "9 parts", all(probe.CheckProbes(row(9), make([]api.Probe, 6))), all(api.ErrLarge))
	oracle.Changed(func(name string, c api.Case, e api.Errno) {
		want(t, name, all(probe.CheckProbes(c, nil)), all(e))
		if e != api.OK {
			want(t, name, all(probe.CheckProbes(c, make([]api.Probe, 6))), all(e))
		}
	})
}

// five are probes of one step, each as dear as some.
func five(cost int) []api.Probe {
	var l []api.Probe
	for i := range 5 {
		l = append(l, api.Probe{Id: i + 1, Part: 0, Width: 1001, Cost: cost})
	}
	return l
}

// call is the arguments of all functions with a case.
type call struct {
	c             api.Case
	l             []api.Probe
	a, b          int
	set, findings []int
	probe         int
}

// callOf is one in which all is as said.
func callOf(x *exam) call { return call{x.c, x.l, 0, 1, []int{0, 2}, []int{1, 0}, 2} }

// errors are the errors of all functions with a case, but for CheckProbes, by what they take.
func (x call) errors() (plain, named, setted, found, paired, pairedSet map[string]api.Errno) {
	plain, named, setted, found = map[string]api.Errno{}, map[string]api.Errno{}, map[string]api.Errno{}, map[string]api.Errno{}
	paired, pairedSet = map[string]api.Errno{}, map[string]api.Errno{}
	_, _, _, plain["Best"] = probe.Best(x.c, x.l)
	_, named["Steps"] = probe.Steps(x.c, x.l, x.probe)
	_, setted["Outcomes"] = probe.Outcomes(x.c, x.l, x.set)
	_, setted["Cost"] = probe.Cost(x.c, x.l, x.set)
	_, _, found["After"] = probe.After(x.c, x.l, x.set, x.findings)
	_, found["Can"] = probe.Can(x.c, x.l, x.set, x.findings)
	_, found["Settled"] = probe.Settled(x.c, x.l, x.set, x.findings)
	_, paired["CheckDoubt"] = probe.CheckDoubt(x.c, x.l, x.a, x.b, api.Open{Probes: []int{7}})
	_, _, paired["Cheapest"] = probe.Cheapest(x.c, x.l, x.a, x.b)
	_, paired["Proof"] = probe.Proof(x.c, x.l, x.a, x.b)
	_, paired["CheckProof"] = probe.CheckProof(x.c, x.l, x.a, x.b, -5, []api.Open{{Probes: []int{7}}})
	_, pairedSet["Decides"] = probe.Decides(x.c, x.l, x.a, x.b, x.set)
	_, _, pairedSet["Verdicts"] = probe.Verdicts(x.c, x.l, x.a, x.b, x.set)
	_, pairedSet["CheckVerdicts"] = probe.CheckVerdicts(x.c, x.l, x.a, x.b, x.set, []api.Verdict{{Findings: []int{-1}}})
	_, _, pairedSet["Doubt"] = probe.Doubt(x.c, x.l, x.a, x.b, x.set)
	return plain, named, setted, found, paired, pairedSet
}

// worth is the error of the one function that takes two parts and a probe.
func (x call) worth() map[string]api.Errno {
	_, _, e := probe.Worth(x.c, x.l, x.a, x.b, x.probe)
	return map[string]api.Errno{"Worth": e}
}

func wantErrors(t *testing.T, what any, want api.Errno, l ...map[string]api.Errno) {
	t.Helper()
	for _, m := range l {
		for name, e := range m {
			if e != want {
				t.Errorf("%+v: %s: error %d, want %d", what, name, e, want)
			}
		}
	}
}

// wantAllErrors is that all functions return one error, but that those which do not take what is wrong return another one.
func wantAllErrors(t *testing.T, what any, x call, want api.Errno) {
	t.Helper()
	plain, named, setted, found, paired, pairedSet := x.errors()
	wantErrors(t, what, want, plain, named, setted, found, paired, pairedSet, x.worth())
}

// TestErrors is that the error of the case comes first, then that of the probes, then ErrArg, and then ErrWhole.
func TestErrors(t *testing.T) {
	bad := callOf(bell())
	bad.a, bad.set, bad.findings, bad.probe = -1, []int{5}, nil, 9
	wantAllErrors(t, "all is well", callOf(bell()), api.OK)
	for _, x := range []struct {
		name string
		c    api.Case
		l    []api.Probe
		want api.Errno
	}{
		{"9 parts", row(9), make([]api.Probe, 6), api.ErrLarge},
		{"no ware", api.Case{}, make([]api.Probe, 6), api.ErrArg},
		{"6 probes", bell().c, make([]api.Probe, 6), api.ErrLimit},
		{"6 probes, no reassembly", tight(), make([]api.Probe, 6), api.ErrLimit},
		{"zero probe", tight(), make([]api.Probe, 1), api.ErrArg},
		{"steps", tight(), []api.Probe{{Id: 1, Part: 1, Width: 1, Cost: 1}}, api.ErrLimit},
	} {
		for _, y := range []call{callOf(bell()), bad} {
			y.c, y.l = x.c, x.l
			wantAllErrors(t, x.name, y, x.want)
		}
	}
	x := callOf(bell())
	x.c = tight()
	wantAllErrors(t, "no reassembly", x, api.ErrWhole)
}

// TestArguments is ErrArg for each argument alone, also without a reassembly.
func TestArguments(t *testing.T) {
	for _, c := range []api.Case{bell().c, tight()} {
		other := api.OK
		if c.Limit == 1 {
			other = api.ErrWhole
		}
		x := callOf(bell())
		x.c = c
		for _, two := range [][2]int{{0, 0}, {2, 2}, {-1, 0}, {0, -1}, {3, 0}, {0, 3}, {1, 8}, {-1, -1}, {9, 9}, {math.MaxInt, 1}, {1, math.MinInt}} {
			y := x
			y.a, y.b = two[0], two[1]
			plain, named, setted, found, paired, pairedSet := y.errors()
			wantErrors(t, two, api.ErrArg, paired, pairedSet, y.worth())
			wantErrors(t, two, other, plain, named, setted, found)
		}
		for _, set := range [][]int{{3}, {-1}, {-1, 0}, {0, 3}, {0, 0}, {1, 0}, {0, 2, 1}, {0, 2, 2}, {0, 1, 2, 3}, {math.MinInt}, {math.MaxInt}, make([]int, 100)} {
			y := x
			y.set = set
			y.findings = make([]int, len(set))
			plain, named, setted, found, paired, pairedSet := y.errors()
			wantErrors(t, set, api.ErrArg, setted, found, pairedSet)
			wantErrors(t, set, other, plain, named, paired, y.worth())
		}
		for _, findings := range [][]int{nil, {0}, {1}, {0, 0, 0}, {2, 0}, {0, 2}, {-1, 0}, {0, -1}, {math.MaxInt, 0}, {0, math.MinInt}} {
			y := x
			y.findings = findings
			plain, named, setted, found, paired, pairedSet := y.errors()
			wantErrors(t, findings, api.ErrArg, found)
			wantErrors(t, findings, other, plain, named, setted, paired, pairedSet, y.worth())
		}
		for _, p := range []int{-1, 3, 4, 5, math.MaxInt, math.MinInt} {
			y := x
			y.probe = p
			plain, named, setted, found, paired, pairedSet := y.errors()
			wantErrors(t, p, api.ErrArg, named, y.worth())
			wantErrors(t, p, other, plain, setted, found, paired, pairedSet)
		}
	}
}

// TestNothing is cases without probes, and without parts.
func TestNothing(t *testing.T) {
	c := row(0)
	want(t, "outcomes", all(probe.Outcomes(c, nil, nil)), all([][]int{nil}, api.OK))
	want(t, "cost", all(probe.Cost(c, nil, nil)), all(0, api.OK))
	want(t, "after", all(probe.After(c, nil, nil, nil)), all(c, true, api.OK))
	want(t, "can", all(probe.Can(c, nil, nil, nil)), all(true, api.OK))
	want(t, "settled", all(probe.Settled(c, nil, nil, nil)), all([]api.Pair{}, api.OK))
	want(t, "best", all(probe.Best(c, nil)), all(api.Pair{}, api.Plan{}, false, api.OK))
	want(t, "two parts", all(probe.Decides(c, nil, 0, 1, nil)), all(false, api.ErrArg))
	want(t, "no probe", all(probe.Steps(row(2), nil, 0)), all([]api.Range{}, api.ErrArg))
	want(t, "one part", all(probe.Decides(row(1), nil, 0, 0, nil)), all(false, api.ErrArg))
	want(t, "an open pair", all(probe.Decides(row(2), nil, 0, 1, nil)), all(false, api.OK))
	want(t, "none", all(probe.Cheapest(row(2), nil, 0, 1)), all(api.Plan{}, false, api.OK))
	want(t, "proof", all(probe.Proof(row(2), nil, 0, 1)), all([]api.Open{{Together: []int{0, 0}, Apart: []int{0, 1}}}, api.OK))
}

func TestExamplesOfSteps(t *testing.T) {
	x := bell()
	want(t, 0, all(probe.Steps(x.c, x.l, 0)), all([]api.Range{{Low: 15, High: 26}, {Low: 27, High: 30}}, api.OK))
	want(t, 1, all(probe.Steps(x.c, x.l, 1)), all([]api.Range{{Low: 15, High: 22}, {Low: 23, High: 30}}, api.OK))
	want(t, 2, all(probe.Steps(x.c, x.l, 2)), all([]api.Range{{Low: 25, High: 32}, {Low: 33, High: 40}}, api.OK))
	want(t, "cost", all(probe.Cost(x.c, x.l, []int{0, 1, 2})), all(8, api.OK))
	want(t, "cost", all(probe.Cost(x.c, x.l, []int{0, 2})), all(3, api.OK))
	want(t, "cost", all(probe.Cost(x.c, five(1000), []int{0, 1, 2, 3, 4})), all(5000, api.OK))
	for width, steps := range map[int][]api.Range{
		1001: {{Low: 15, High: 30}}, 17: {{Low: 15, High: 30}}, 16: {{Low: 15, High: 30}}, 15: {{Low: 15, High: 29}, {Low: 30, High: 30}},
		5: {{Low: 15, High: 19}, {Low: 20, High: 24}, {Low: 25, High: 29}, {Low: 30, High: 30}}, 4: {{Low: 15, High: 18}, {Low: 19, High: 22}, {Low: 23, High: 26}, {Low: 27, High: 30}},
	} {
		want(t, width, all(probe.Steps(x.c, []api.Probe{{Id: 1, Part: 1, Width: width, Cost: 1}}, 0)), all(steps, api.OK))
	}
	x.c.Parts[1].Span = api.Span{Low: 17, High: 17}
	want(t, "one colour", all(probe.Steps(x.c, []api.Probe{{Id: 1, Part: 1, Width: 1, Cost: 1}}, 0)), all([]api.Range{{Low: 17, High: 17}}, api.OK))
	want(t, "all colours", all(probe.Steps(row(1), five(1), 4)), all([]api.Range{{Low: 0, High: 1000}}, api.OK))
	last := api.Case{Ware: "bell", Parts: []api.Part{{Sherds: []int{1}, Span: api.Span{Low: 999, High: 1000}}}}
	want(t, "the last colours", all(probe.Steps(last, []api.Probe{{Id: 1, Width: 1, Cost: 1}}, 0)), all([]api.Range{{Low: 999, High: 999}, {Low: 1000, High: 1000}}, api.OK))
}

// TestSteps is Steps of I1 and Cost of I2, against the oracle.
func TestSteps(t *testing.T) {
	most := 0
	eachExam(t, 1, 400, 6, 5, func(d dice, x *exam) {
		for p := range x.l {
			want(t, all(x, p), all(probe.Steps(x.c, x.l, p)), all(x.steps(p), api.OK))
			if len(x.steps(p)) == 4 {
				most++
			}
		}
		for _, set := range x.sets() {
			want(t, all(x, set), all(probe.Cost(x.c, x.l, set)), all(x.cost(set), api.OK))
		}
	})
	if most < 100 {
		t.Errorf("only %d times 4 steps", most)
	}
}
