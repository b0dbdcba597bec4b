package probe_test

import (
	"math"
	"slices"
	"testing"

	"conjoin/api"
	"conjoin/oracle"
	"conjoin/probe"
	"conjoin/sure"
)

func TestExamplesOfPlans(t *testing.T) {
	x := bell()
	want(t, "cheapest", all(probe.Cheapest(x.c, x.l, 0, 1)), all(api.Plan{Probes: []int{1}, Cost: 5}, true, api.OK))
	want(t, "cheapest", all(probe.Cheapest(x.c, x.l, 2, 1)), all(api.Plan{Probes: []int{1}, Cost: 5}, true, api.OK))
	want(t, "certain", all(probe.Cheapest(x.c, x.l, 0, 2)), all(api.Plan{}, true, api.OK))
	want(t, "none", all(probe.Cheapest(x.c, x.l[:1], 0, 1)), all(api.Plan{}, false, api.OK))
	want(t, "best", all(probe.Best(x.c, x.l)), all(api.Pair{A: 0, B: 1}, api.Plan{Probes: []int{1}, Cost: 5}, true, api.OK))
	want(t, "no best", all(probe.Best(x.c, x.l[:1])), all(api.Pair{}, api.Plan{}, false, api.OK))
	want(t, "no best", all(probe.Best(x.c, nil)), all(api.Pair{}, api.Plan{}, false, api.OK))
	d, e := probe.Proof(x.c, x.l, 0, 1)
	want(t, "proof", all(len(d), x.isProof(0, 1, 5, d), e), all(1, true, api.OK))
	want(t, "proof", all(d[0].Probes), all([]int{0, 2}))
	want(t, "proof of nothing", all(probe.Proof(x.c, x.l, 0, 2)), all([]api.Open{}, api.OK))
	d, e = probe.Proof(x.c, x.l[:1], 0, 1)
	want(t, "no set", all(len(d), x.isDoubt(0, 1, d[0]), d[0].Probes, e), all(1, true, []int{0}, api.OK))
	empty := api.Open{Together: []int{0, 0, 1}, Apart: []int{0, 1, 1}}
	both := api.Open{Probes: []int{0, 2}, Findings: []int{0, 0}, Together: []int{0, 0, 1}, Apart: []int{0, 1, 1}}
	first := api.Open{Probes: []int{0}, Findings: []int{0}, Together: []int{0, 0, 1}, Apart: []int{0, 1, 1}}
	last := api.Open{Probes: []int{2}, Findings: []int{0}, Together: []int{0, 0, 1}, Apart: []int{0, 1, 1}}
	for i, y := range []struct {
		a, b, cost int
		d          []api.Open
		is         bool
	}{
		{0, 1, 5, []api.Open{both}, true}, {0, 1, 6, []api.Open{both}, false}, {0, 1, 4, nil, false}, {0, 1, 1, nil, false}, {0, 1, 0, nil, true}, {0, 1, math.MinInt, nil, true},
		{0, 1, 1, []api.Open{empty}, true}, {0, 1, 2, []api.Open{empty}, false}, {0, 1, 2, []api.Open{first}, true}, {0, 1, 2, []api.Open{last}, false}, {0, 1, 3, []api.Open{first, last}, true},
		{0, 1, 3, []api.Open{last, first}, true}, {0, 1, 3, []api.Open{last, empty, first, first}, true}, {0, 1, 4, []api.Open{first, last}, false}, {0, 1, 4, []api.Open{first, both}, true},
		{0, 1, 5, []api.Open{both, {}}, false}, {0, 1, 5, []api.Open{{}, both}, false}, {0, 1, 0, []api.Open{{}}, false}, {0, 1, 0, []api.Open{{Probes: []int{9}}}, false},
		{0, 1, math.MaxInt, []api.Open{both, first, last, empty}, false}, {0, 2, 0, nil, true}, {0, 2, 1, nil, false}, {0, 2, 0, []api.Open{empty}, false},
	} {
		want(t, i, all(probe.CheckProof(x.c, x.l, y.a, y.b, y.cost, y.d)), all(y.is, api.OK))
		want(t, i, all(x.isProof(y.a, y.b, y.cost, y.d)), all(y.is))
	}
	want(t, "no set", all(probe.CheckProof(x.c, x.l[:1], 0, 1, math.MaxInt, d)), all(true, api.OK))
}

// costly are three probes of the part 1 of bell, two of which decide.
func costly(first, second, third int) *exam {
	x := bell()
	x.l = []api.Probe{{Id: 1, Part: 1, Width: 8, Cost: first}, {Id: 2, Part: 1, Width: 12, Cost: second}, {Id: 3, Part: 1, Width: 9, Cost: third}}
	return x
}

// TestTies is that of several sets that cost the same the first one is taken, and what costs most.
func TestTies(t *testing.T) {
	for _, y := range []struct {
		x    *exam
		want api.Plan
	}{
		{costly(4, 1, 4), api.Plan{Probes: []int{0}, Cost: 4}}, {costly(4, 1, 3), api.Plan{Probes: []int{2}, Cost: 3}}, {costly(3, 4, 4), api.Plan{Probes: []int{0}, Cost: 3}},
		{costly(1000, 1000, 1000), api.Plan{Probes: []int{0}, Cost: 1000}}, {costly(1000, 1, 999), api.Plan{Probes: []int{2}, Cost: 999}},
	} {
		want(t, y.x, all(probe.Cheapest(y.x.c, y.x.l, 0, 1)), all(y.want, true, api.OK))
		want(t, y.x, all(probe.Best(y.x.c, y.x.l)), all(api.Pair{A: 0, B: 1}, y.want, true, api.OK))
	}
	// Each part is with the first one or with the second one, and only its own probe tells; the last one can be had for less.
	c := api.Case{Ware: "bell", Limit: 2, By: 9}
	for i, s := range []api.Span{{Low: 10, High: 20}, {Low: 30, High: 40}, {Low: 15, High: 34}, {Low: 15, High: 34}, {Low: 15, High: 34}} {
		c.Parts = append(c.Parts, api.Part{Sherds: []int{i + 1}, Span: s})
	}
	x := newExam(c, api.Probe{Id: 1, Part: 4, Width: 10, Cost: 2}, api.Probe{Id: 2, Part: 3, Width: 10, Cost: 1}, api.Probe{Id: 3, Part: 2, Width: 10, Cost: 1})
	for pair, plan := range map[api.Pair]api.Plan{
		{A: 0, B: 4}: {Probes: []int{0}, Cost: 2}, {A: 1, B: 4}: {Probes: []int{0}, Cost: 2}, {A: 0, B: 3}: {Probes: []int{1}, Cost: 1}, {A: 0, B: 2}: {Probes: []int{2}, Cost: 1},
		{A: 2, B: 3}: {Probes: []int{1, 2}, Cost: 2}, {A: 3, B: 4}: {Probes: []int{0, 1}, Cost: 3}, {A: 2, B: 4}: {Probes: []int{0, 2}, Cost: 3},
	} {
		want(t, pair, all(probe.Cheapest(x.c, x.l, pair.A, pair.B)), all(plan, true, api.OK))
	}
	want(t, "best", all(probe.Best(x.c, x.l)), all(api.Pair{A: 0, B: 2}, api.Plan{Probes: []int{2}, Cost: 1}, true, api.OK))
	x.l[2].Cost = 2
	want(t, "best", all(probe.Best(x.c, x.l)), all(api.Pair{A: 0, B: 3}, api.Plan{Probes: []int{1}, Cost: 1}, true, api.OK))
	// Two probes that cost as much as one stand before it, if one of them does.
	x.l = []api.Probe{{Id: 1, Part: 2, Width: 10, Cost: 1}, {Id: 2, Part: 2, Width: 10, Cost: 4}, {Id: 3, Part: 3, Width: 10, Cost: 3}, {Id: 4, Part: 3, Width: 10, Cost: 3}}
	want(t, "two of four", all(probe.Cheapest(x.c, x.l, 2, 3)), all(api.Plan{Probes: []int{0, 2}, Cost: 4}, true, api.OK))
	want(t, "all", all(probe.Cheapest(row(8), five(1000), 0, 1)), all(api.Plan{}, false, api.OK))
}

// TestFive is as many probes as there can be, one of which decides.
func TestFive(t *testing.T) {
	for decides := range 5 {
		x := bell()
		x.l = five(1)
		for i := range x.l {
			x.l[i].Part = i % 3
		}
		x.l[decides] = api.Probe{Id: 9, Part: 1, Width: 8, Cost: 5}
		others := slices.DeleteFunc([]int{0, 1, 2, 3, 4}, func(p int) bool { return p == decides })
		want(t, decides, all(probe.Cheapest(x.c, x.l, 0, 1)), all(api.Plan{Probes: []int{decides}, Cost: 5}, true, api.OK))
		want(t, decides, all(probe.Best(x.c, x.l)), all(api.Pair{A: 0, B: 1}, api.Plan{Probes: []int{decides}, Cost: 5}, true, api.OK))
		l, e := probe.Proof(x.c, x.l, 1, 0)
		want(t, decides, all(len(l), x.isProof(1, 0, 5, l), e), all(1, true, api.OK))
		want(t, decides, all(l[0].Probes), all(others))
		for _, set := range x.sets() {
			o := api.Open{Probes: set, Findings: make([]int, len(set)), Together: []int{0, 0, 1}, Apart: []int{0, 1, 1}}
			is := slices.Equal(set, others)
			want(t, all(decides, set), all(probe.CheckProof(x.c, x.l, 0, 1, 5, []api.Open{o})), all(is, api.OK))
			want(t, all(decides, set), all(probe.CheckProof(x.c, x.l, 0, 1, 6, []api.Open{o})), all(false, api.OK))
			want(t, all(decides, set), all(probe.CheckDoubt(x.c, x.l, 0, 1, o)), all(!slices.Contains(set, decides), api.OK))
		}
		x.l[decides].Cost = 4
		l, e = probe.Proof(x.c, x.l, 0, 1)
		var sets [][]int
		for _, o := range l {
			sets = append(sets, o.Probes)
		}
		want(t, decides, all(sets, e, x.isProof(0, 1, 4, l)), all(x.widest(0, 1), api.OK, true))
		want(t, decides, all(len(sets)), all(4))
	}
}

// TestCheapest is Cheapest of I8, P9.6 and the first half of P9.3.
func TestCheapest(t *testing.T) {
	none, empty, one, several, ties := 0, 0, 0, 0, 0
	eachTwo(t, 21, 1000, 5, 4, func(d dice, x *exam, a, b int) {
		plan, ok := x.cheapest(a, b)
		want(t, all(x, a, b), all(probe.Cheapest(x.c, x.l, a, b)), all(plan, ok, api.OK))
		answer, e := sure.Answer(x.c, a, b)
		is, f := probe.Decides(x.c, x.l, a, b, nil)
		want(t, all(x, a, b), all(is, e, f), all(answer != api.SureOpen, api.OK, api.OK))
		if answer != api.SureOpen {
			empty++
			want(t, all(x, a, b), all(plan, ok), all(api.Plan{}, true))
			return
		}
		if !ok {
			none++
			return
		}
		want(t, all(x, a, b), all(probe.Decides(x.c, x.l, a, b, plan.Probes)), all(true, api.OK))
		if len(plan.Probes) == 1 {
			one++
		} else {
			several++
		}
		if slices.ContainsFunc(x.sets(), func(set []int) bool {
			return x.cost(set) == plan.Cost && slices.Compare(set, plan.Probes) > 0 && x.decides(set, a, b)
		}) {
			ties++
		}
	})
	if none < 1000 || empty < 800 || one < 400 || several < 50 || ties < 30 {
		t.Errorf("%d times none, %d times the empty set, %d times one probe, %d times several, %d times not alone", none, empty, one, several, ties)
	}
}

// TestProof is Proof of I9 and P9.3.
func TestProof(t *testing.T) {
	none, several := 0, 0
	eachTwo(t, 22, 800, 5, 4, func(d dice, x *exam, a, b int) {
		l, e := probe.Proof(x.c, x.l, a, b)
		var sets [][]int
		for _, o := range l {
			sets = append(sets, o.Probes)
		}
		want(t, all(x, a, b), all(sets, e), all(x.widest(a, b), api.OK))
		plan, ok := x.cheapest(a, b)
		cost := plan.Cost
		if !ok {
			none++
			cost = math.MaxInt
		}
		want(t, all(x, a, b, l), all(x.isProof(a, b, cost, l)), all(true))
		want(t, all(x, a, b, l), all(probe.CheckProof(x.c, x.l, a, b, cost, l)), all(true, api.OK))
		if len(l) > 1 {
			several++
		}
	})
	if none < 800 || several < 80 {
		t.Errorf("%d times no set, %d times several doubts", none, several)
	}
}

// TestCheckProof is CheckProof of I9, and the other half of P9.3: if it accepts some list, no set that costs less decides.
func TestCheckProof(t *testing.T) {
	yes, no, long := 0, 0, 0
	eachTwo(t, 23, 500, 5, 4, func(d dice, x *exam, a, b int) {
		for range 4 {
			var l []api.Open
			for range d.IntN(5) {
				if o, ok := d.anyDoubt(x, d.anySet(x), a, b); ok {
					l = append(l, o)
				}
			}
			if len(l) > 0 && d.IntN(4) == 0 {
				i := d.IntN(len(l))
				l[i] = d.spoiltDoubt(x, l[i])
			}
			set := d.anySet(x)
			cost := oracle.OneOf(d, 0, 1, 2, x.cost(set), x.cost(set)+1, d.IntN(8), math.MaxInt, math.MinInt)
			is := x.isProof(a, b, cost, l)
			want(t, all(x, a, b, cost, l), all(probe.CheckProof(x.c, x.l, a, b, cost, l)), all(is, api.OK))
			if !is {
				no++
				continue
			}
			yes++
			if plan, ok := x.cheapest(a, b); ok && plan.Cost < cost {
				t.Errorf("%v: %d and %d are decided by %v, for less than %d", x, a, b, plan, cost)
			}
			if len(l) > 1 && cost > 1 {
				long++
			}
		}
	})
	if yes < 1500 || no < 1500 || long < 150 {
		t.Errorf("%d proofs, %d of them long; %d that are none", yes, long, no)
	}
}

// TestBest is Best of I10, and P9.7.
func TestBest(t *testing.T) {
	none, later, ties := 0, 0, 0
	eachExam(t, 24, 700, 5, 4, func(d dice, x *exam) {
		var pair api.Pair
		var least api.Plan
		found, alike := false, false
		for _, p := range x.two() {
			plan, ok := x.cheapest(p.A, p.B)
			if !ok || !x.isOpen(p) {
				continue
			}
			if got, _, _ := probe.Cheapest(x.c, x.l, p.A, p.B); got.Cost != plan.Cost {
				t.Errorf("%v: %+v costs %d, want %d", x, p, got.Cost, plan.Cost)
			}
			alike = alike || found && plan.Cost == least.Cost
			if !found || plan.Cost < least.Cost {
				if found {
					later++
				}
				pair, least, found, alike = p, plan, true, false
			}
		}
		want(t, x, all(probe.Best(x.c, x.l)), all(pair, least, found, api.OK))
		if !found {
			none++
		}
		if alike {
			ties++
		}
	})
	if none < 100 || later < 10 || ties < 70 {
		t.Errorf("%d times none, %d times not the first one, %d times not alone", none, later, ties)
	}
}
