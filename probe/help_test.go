package probe_test

import (
	"fmt"
	"math/rand/v2"
	"slices"
	"testing"

	"conjoin/api"
	"conjoin/oracle"
	"conjoin/probe"
	"conjoin/sure"
)

// This file has an oracle: slow functions that say what is right as the chapter's words say it, without the package. Of package sure only the functions that check are used, by which the chapter says what a verdict is.

// exam is a case with probes.
type exam struct {
	c     api.Case
	l     []api.Probe
	known map[[5]int]whatIs      // after findings: of each probe its finding and one more, 0 if it is not in the set
	left  map[[5]bool][8][8]bool // by the probes of a set: whether it leaves two parts open
}

// whatIs is whether some findings can be, and the answers of each two parts then.
type whatIs struct {
	can     bool
	answers [8][8]uint8
}

func newExam(c api.Case, l ...api.Probe) *exam {
	return &exam{c, l, map[[5]int]whatIs{}, map[[5]bool][8][8]bool{}}
}

func (x *exam) String() string { return fmt.Sprintf("%+v, %+v", x.c, x.l) }

// bell is the case K of the chapter's examples, with the probes.
func bell() *exam {
	return newExam(api.Case{Ware: "bell", Limit: 2, By: 20, Parts: []api.Part{
		{Sherds: []int{101}, Span: api.Span{Low: 10, High: 20, LowBy: 1, HighBy: 2}},
		{Sherds: []int{102}, Span: api.Span{Low: 15, High: 30, LowBy: 3, HighBy: 4}},
		{Sherds: []int{103}, Span: api.Span{Low: 25, High: 40, LowBy: 5, HighBy: 6}},
	}}, api.Probe{Id: 31, Part: 1, Width: 12, Cost: 1}, api.Probe{Id: 32, Part: 1, Width: 8, Cost: 5}, api.Probe{Id: 33, Part: 2, Width: 8, Cost: 2})
}

// gap is a case of two vessels with a part between them that may be of neither colour, so that some findings cannot be: the steps 1 and 2 of the first probe are of no vessel.
func gap() *exam {
	x := bell()
	x.c.Parts[1].Span = api.Span{Low: 19, High: 26, LowBy: 3, HighBy: 4}
	x.l = []api.Probe{{Id: 4, Part: 1, Width: 2, Cost: 1000}, {Id: 1000000, Part: 0, Width: 1001, Cost: 1}, {Id: 7, Part: 1, Width: 4, Cost: 3}}
	return x
}

// steps are those of a probe, colour by colour.
func (x *exam) steps(p int) []api.Range {
	s := x.c.Parts[x.l[p].Part].Span
	var l []api.Range
	for colour := s.Low; colour <= s.High; colour++ {
		if i := (colour - s.Low) / x.l[p].Width; i < len(l) {
			l[i].High = colour
		} else {
			l = append(l, api.Range{Low: colour, High: colour})
		}
	}
	return l
}

// outcomes are all findings for a set.
func (x *exam) outcomes(set []int) [][]int {
	l := [][]int{nil}
	for _, p := range set {
		var longer [][]int
		for _, f := range l {
			for step := range x.steps(p) {
				longer = append(longer, append(slices.Clone(f), step))
			}
		}
		l = longer
	}
	return l
}

// after is the case after findings; false if no colour is left for some part.
func (x *exam) after(set, findings []int) (api.Case, bool) {
	c := api.Case{Ware: x.c.Ware, Limit: x.c.Limit, By: x.c.By, Parts: slices.Clone(x.c.Parts)}
	for i, p := range set {
		step := x.steps(p)[findings[i]]
		s := &c.Parts[x.l[p].Part].Span
		if step.Low > s.Low {
			s.Low, s.LowBy = step.Low, x.l[p].Id
		}
		if step.High < s.High {
			s.High, s.HighBy = step.High, x.l[p].Id
		}
	}
	for _, p := range c.Parts {
		if p.Span.Low > p.Span.High {
			return api.Case{}, false
		}
	}
	return c, true
}

// reassemblies are all that there are after findings.
func (x *exam) reassemblies(set, findings []int) [][]int {
	c, left := x.after(set, findings)
	if !left {
		return nil
	}
	return oracle.Reassemblies(c)
}

// whatIs says what is so after findings: two parts are together, apart, or, in several reassemblies, both.
func (x *exam) whatIs(set, findings []int) whatIs {
	var key [5]int
	for i, p := range set {
		key[p] = findings[i] + 1
	}
	w, ok := x.known[key]
	if ok {
		return w
	}
	for _, v := range x.reassemblies(set, findings) {
		w.can = true
		for a := range v {
			for b := range v {
				if v[a] == v[b] {
					w.answers[a][b] |= api.SureTogether
				} else {
					w.answers[a][b] |= api.SureApart
				}
			}
		}
	}
	x.known[key] = w
	return w
}

func (x *exam) can(set, findings []int) bool { return x.whatIs(set, findings).can }

// answer is that of two parts after findings, 0 if there cannot be these.
func (x *exam) answer(set, findings []int, a, b int) uint8 {
	return x.whatIs(set, findings).answers[a][b]
}

// open are the findings for a set that leave two parts open.
func (x *exam) open(set []int, a, b int) [][]int {
	return slices.DeleteFunc(x.outcomes(set), func(f []int) bool { return x.answer(set, f, a, b) != api.SureOpen })
}

func (x *exam) decides(set []int, a, b int) bool {
	var key [5]bool
	for _, p := range set {
		key[p] = true
	}
	left, ok := x.left[key]
	if ok {
		return !left[a][b]
	}
	for _, f := range x.outcomes(set) {
		for p, row := range x.whatIs(set, f).answers {
			for q, answer := range row {
				left[p][q] = left[p][q] || answer == api.SureOpen
			}
		}
	}
	x.left[key] = left
	return !left[a][b]
}

func (x *exam) isOpen(p api.Pair) bool { return x.answer(nil, nil, p.A, p.B) == api.SureOpen }

// sets are all sets, in their order.
func (x *exam) sets() [][]int {
	l := [][]int{nil}
	for p := range x.l {
		for _, set := range l {
			l = append(l, append(slices.Clone(set), p))
		}
	}
	slices.SortFunc(l, slices.Compare[[]int])
	return l
}

func (x *exam) cost(set []int) int {
	n := 0
	for _, p := range set {
		n += x.l[p].Cost
	}
	return n
}

// cheapest is the first set that decides two parts and costs least; false if there is none.
func (x *exam) cheapest(a, b int) (api.Plan, bool) {
	var least api.Plan
	found := false
	for _, set := range x.sets() {
		if x.decides(set, a, b) && (!found || x.cost(set) < least.Cost) {
			least, found = api.Plan{Probes: set, Cost: x.cost(set)}, true
		}
	}
	return least, found
}

// isIn says whether a set is in another one.
func isIn(set, other []int) bool {
	for _, p := range set {
		if !slices.Contains(other, p) {
			return false
		}
	}
	return true
}

// widest are the sets for which a proof has doubts.
func (x *exam) widest(a, b int) [][]int {
	least, ok := x.cheapest(a, b)
	cheaper := slices.DeleteFunc(x.sets(), func(set []int) bool { return ok && x.cost(set) >= least.Cost })
	return slices.DeleteFunc(slices.Clone(cheaper), func(set []int) bool {
		return slices.ContainsFunc(cheaper, func(other []int) bool { return len(other) > len(set) && isIn(set, other) })
	})
}

// areVerdicts says whether a list is verdicts.
func (x *exam) areVerdicts(set []int, a, b int, v []api.Verdict) bool {
	all := x.outcomes(set)
	if len(v) != len(all) {
		return false
	}
	for i, findings := range all {
		if !slices.Equal(v[i].Findings, findings) || !x.isVerdict(set, a, b, v[i]) {
			return false
		}
	}
	return true
}

func (x *exam) isVerdict(set []int, a, b int, v api.Verdict) bool {
	c, left := x.after(set, v.Findings)
	if !left {
		return v.Answer == 0 && len(v.Proof) == 0
	}
	ok := false
	switch v.Answer {
	case 0:
		ok, _ = sure.CheckNone(c, v.Proof)
	case api.SureTogether:
		ok, _ = sure.CheckRefute(c, a, b, false, v.Proof)
	case api.SureApart:
		ok, _ = sure.CheckRefute(c, a, b, true, v.Proof)
	}
	return ok
}

// isDoubt says whether something is a doubt.
func (x *exam) isDoubt(a, b int, d api.Open) bool {
	isSet := slices.ContainsFunc(x.sets(), func(set []int) bool { return slices.Equal(set, d.Probes) })
	if !isSet || !slices.ContainsFunc(x.outcomes(d.Probes), func(f []int) bool { return slices.Equal(f, d.Findings) }) {
		return false
	}
	c, left := x.after(d.Probes, d.Findings)
	return left && oracle.IsReassembly(c, d.Together) && oracle.IsReassembly(c, d.Apart) && d.Together[a] == d.Together[b] && d.Apart[a] != d.Apart[b]
}

// isProof says whether doubts show that no set which costs less decides.
func (x *exam) isProof(a, b, cost int, l []api.Open) bool {
	for _, d := range l {
		if !x.isDoubt(a, b, d) {
			return false
		}
	}
	for _, set := range x.sets() {
		if x.cost(set) < cost && !slices.ContainsFunc(l, func(d api.Open) bool { return isIn(set, d.Probes) }) {
			return false
		}
	}
	return true
}

// two are each two different parts, the lesser one first.
func (x *exam) two() []api.Pair {
	var l []api.Pair
	for a := range x.c.Parts {
		for b := a + 1; b < len(x.c.Parts); b++ {
			l = append(l, api.Pair{A: a, B: b})
		}
	}
	return l
}

// dice throws numbers that are the same in every run.
type dice struct{ *rand.Rand }

func newDice(seed uint64) dice { return dice{rand.New(rand.NewPCG(seed, 9))} }

// turned has two parts in any order.
func (d dice) turned(p api.Pair) (a, b int) {
	if d.IntN(2) == 0 {
		return p.A, p.B
	}
	return p.B, p.A
}

// anySet is any set.
func (d dice) anySet(x *exam) []int {
	l := x.sets()
	return l[d.IntN(len(l))]
}

// anyFindings are findings for a set.
func (d dice) anyFindings(x *exam, set []int) []int {
	l := x.outcomes(set)
	return l[d.IntN(len(l))]
}

// anyPile is a case of two or three parts of different vessels, and of others that reach from one of these to another one, so that a colour of theirs may tell of which vessel they are.
func (d dice) anyPile(n int) api.Case {
	spans := make([]api.Span, n)
	fixed := min(n, oracle.OneOf(d, 2, 2, 2, 3))
	low := d.IntN(9)
	for i := range spans {
		if i < fixed {
			spans[i] = api.Span{Low: low, High: low + d.IntN(8)}
			low = spans[i].High + 3 + d.IntN(10)
		} else {
			from := d.IntN(fixed - 1)
			spans[i] = api.Span{Low: max(0, spans[from].High-d.IntN(4)), High: spans[from+1].Low + d.IntN(4)}
		}
	}
	c := api.Case{Ware: "bell", Limit: fixed + oracle.OneOf(d, 0, 0, 0, 0, 1), By: 50}
	for i, j := range d.Perm(n) {
		s := spans[j]
		s.HighBy = i + 1
		c.Parts = append(c.Parts, api.Part{Sherds: []int{i + 1}, Span: s, Foot: d.IntN(12) == 0})
	}
	return c
}

// anyProbe is a probe of some part of a case, with an Id.
func (d dice) anyProbe(c api.Case, id int) api.Probe {
	colours := func(part int) int { return c.Parts[part].Span.High - c.Parts[part].Span.Low + 1 }
	p := api.Probe{Id: id, Part: d.IntN(len(c.Parts)), Cost: 1 + d.IntN(oracle.OneOf(d, 1, 2, 3, 6, 1000))}
	if other := d.IntN(len(c.Parts)); colours(other) > colours(p.Part) {
		p.Part = other
	}
	p.Width = (colours(p.Part) + 3) / 4
	if d.IntN(2) > 0 {
		p.Width = min(p.Width+d.IntN(colours(p.Part)), 1001)
	}
	return p
}

// anyExam is a case with a reassembly, with so many probes.
func (d dice) anyExam(parts, probes int) *exam {
	x := newExam(api.Case{})
	for x.c.Ware == "" || len(oracle.Reassemblies(x.c)) == 0 {
		x.c = oracle.AnyCase(d, parts)
		if parts > 1 && d.IntN(4) > 0 {
			x.c = d.anyPile(parts)
		}
	}
	if parts == 0 {
		return x
	}
	for _, id := range d.Perm(60)[:probes] {
		x.l = append(x.l, d.anyProbe(x.c, id+1))
	}
	return x
}

// eachExam calls f with the cases of the examples, and with many by dice, of so many parts and probes at most.
func eachExam(t *testing.T, seed uint64, times, parts, probes int, f func(d dice, x *exam)) {
	t.Helper()
	d := newDice(seed)
	check := func(x *exam) {
		if e := probe.CheckProbes(x.c, x.l); e != api.OK {
			t.Fatalf("CheckProbes(%v): error %d", x, e)
		}
		f(d, x)
	}
	for _, x := range []*exam{bell(), gap(), newExam(api.Case{Ware: "bell"}), newExam(api.Case{Ware: "bell", Limit: 1})} {
		check(x)
	}
	for i := range times {
		check(d.anyExam(i%(parts+1), max(d.IntN(probes+1), d.IntN(probes+1))))
	}
}

// eachTwo calls f with each two parts of many cases, in any order.
func eachTwo(t *testing.T, seed uint64, times, parts, probes int, f func(d dice, x *exam, a, b int)) {
	t.Helper()
	eachExam(t, seed, times, parts, probes, func(d dice, x *exam) {
		for _, p := range x.two() {
			a, b := d.turned(p)
			f(d, x, a, b)
		}
	})
}

// want holds results against what they should be; empty lists are alike.
func want(t *testing.T, what any, got, want []any) {
	t.Helper()
	if a, b := fmt.Sprintf("%+v", got), fmt.Sprintf("%+v", want); a != b {
		t.Errorf("%+v: %s, want %s", what, a, b)
	}
}

// all is several results as one list.
func all(x ...any) []any { return x }

// branches are those with a string.
func branches(t *testing.T, s string) []api.Branch {
	t.Helper()
	r, e := sure.ReadRefute(s)
	if e != api.OK {
		t.Fatalf("ReadRefute(%q): error %d", s, e)
	}
	return r
}
