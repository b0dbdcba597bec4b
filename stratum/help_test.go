package stratum_test

import (
	"fmt"
	"math/rand/v2"
	"slices"
	"testing"

	"conjoin/api"
	"conjoin/oracle"
	"conjoin/stratum"
)

// This file has an oracle: slow functions that say what is right as the chapter's words say it, without the package.

// site is a log, a day, and bonds.
type site struct {
	l   []api.Trace
	day int
	b   []api.Bond
}

func at(pit, layer int) api.Place { return api.Place{Pit: pit, Layer: layer} }

// lines are traces that are read.
func lines(t *testing.T, list ...string) []api.Trace {
	t.Helper()
	var l []api.Trace
	for _, s := range list {
		x, e := stratum.Read(s)
		if e != api.OK {
			t.Fatalf("Read(%q): error %d", s, e)
		}
		l = append(l, x)
	}
	if i, e := stratum.Check(l); e != api.OK {
		t.Fatalf("Check(%v): %d, error %d", list, i, e)
	}
	return l
}

// example is the log and the bond of the chapter's examples, on a day.
func example(t *testing.T, day int) site {
	t.Helper()
	l := lines(t, "1 0 above 1 1 2", "2 0 above 1 2 3", "3 0 dated 1 3 100 120", "4 1 dated 2 1 90 95", "5 2 moved 1 1 5", "6 2 moved 2 1 3")
	return site{l, day, []api.Bond{{A: at(1, 1), B: at(2, 1), By: 40}}}
}

// withdrawn says whether a trace is withdrawn on a day.
func withdrawn(l []api.Trace, day, id int) bool {
	return slices.ContainsFunc(l, func(x api.Trace) bool { return x.Kind == api.TraceVoid && x.Of == id && x.Known <= day })
}

// countingOf are the traces that count.
func countingOf(l []api.Trace, day int) []api.Trace {
	var some []api.Trace
	for _, x := range l {
		if x.Kind != api.TraceVoid && x.Known <= day && !withdrawn(l, day, x.Id) {
			some = append(some, x)
		}
	}
	return some
}

// places are all of a site, ascending.
func (s site) places() []api.Place {
	var named [21][51]bool
	for _, x := range countingOf(s.l, s.day) {
		named[x.Pit][x.Layer] = true
		if x.Kind == api.TraceAbove {
			named[x.Pit][x.Lower] = true
		}
	}
	for _, b := range s.b {
		named[b.A.Pit][b.A.Layer] = true
		named[b.B.Pit][b.B.Layer] = true
	}
	var l []api.Place
	for pit := range named {
		for layer, is := range named[pit] {
			if is {
				l = append(l, at(pit, layer))
			}
		}
	}
	return l
}

// admits are the admissions of a site.
func (s site) admits() []api.Admit {
	var l []api.Admit
	for _, p := range s.places() {
		for _, x := range slices.Backward(countingOf(s.l, s.day)) {
			if x.Kind == api.TraceMoved && at(x.Pit, x.Layer) == p {
				l = append(l, api.Admit{Place: p, Cost: x.Cost, By: x.Id})
				break
			}
		}
	}
	return l
}

// counts says whether a bond counts with some admitted places.
func counts(b api.Bond, moved []api.Place) bool {
	return !slices.Contains(moved, b.A) && !slices.Contains(moved, b.B)
}

// links are those with some admitted places.
func (s site) links(moved []api.Place) []api.Link {
	var l []api.Link
	for _, x := range countingOf(s.l, s.day) {
		p := at(x.Pit, x.Layer)
		if x.Kind == api.TraceAbove {
			l = append(l, api.Link{From: p, To: at(x.Pit, x.Lower), Most: -1, By: x.Id})
		}
		if x.Kind == api.TraceDated {
			l = append(l, api.Link{From: at(0, 0), To: p, Most: x.High, By: x.Id}, api.Link{From: p, To: at(0, 0), Most: -x.Low, By: x.Id})
		}
	}
	for _, b := range s.b {
		if counts(b, moved) {
			l = append(l, api.Link{From: b.A, To: b.B, By: b.By}, api.Link{From: b.B, To: b.A, By: b.By})
		}
	}
	return l
}

// points are the year and the places.
func (s site) points() []api.Place { return append([]api.Place{{}}, s.places()...) }

// bounds are links as bounds of the points.
func (s site) bounds(links []api.Link) []api.Bound {
	points := s.points()
	var l []api.Bound
	for _, x := range links {
		l = append(l, api.Bound{From: slices.Index(points, x.From), To: slices.Index(points, x.To), Most: x.Most})
	}
	return l
}

// gaps are for each two points how much later the second one can be, oracle.Far if nothing bounds that; false if there are no dates.
func (s site) gaps(moved []api.Place) (map[[2]api.Place]int, bool) {
	points := s.points()
	m, ok := oracle.Differences(len(points), s.bounds(s.links(moved)))
	gaps := map[[2]api.Place]int{}
	for i, row := range m {
		for j, n := range row {
			gaps[[2]api.Place{points[i], points[j]}] = n
		}
	}
	return gaps, ok
}

// hasDates says whether there are dates.
func (s site) hasDates(moved []api.Place) bool {
	_, ok := s.gaps(moved)
	return ok
}

// areDates is what the chapter calls dates.
func (s site) areDates(moved []api.Place, d []api.Dating) bool {
	years := map[api.Place]int{{}: 0}
	var named []api.Place
	for _, x := range d {
		if x.Year < -1000000 || x.Year > 1000000 {
			return false
		}
		named = append(named, x.Place)
		years[x.Place] = x.Year
	}
	if !slices.Equal(named, s.places()) {
		return false
	}
	return !slices.ContainsFunc(s.links(moved), func(l api.Link) bool { return years[l.To]-years[l.From] > l.Most })
}

func sumOf(links []api.Link) int {
	sum := 0
	for _, l := range links {
		sum += l.Most
	}
	return sum
}

// isConflict is what the chapter calls a contradiction.
func (s site) isConflict(moved []api.Place, c []api.Link) bool {
	if len(c) < 2 || c[len(c)-1].To != c[0].From || sumOf(c) >= 0 {
		return false
	}
	links := s.links(moved)
	for i, x := range c {
		if !slices.Contains(links, x) || i > 0 && c[i-1].To != x.From {
			return false
		}
		for _, y := range c[:i] {
			if x.From == y.From {
				return false
			}
		}
	}
	return true
}

// fewest is how many links the shortest contradiction has, 0 if there is none: the least sums of walks of so many links from each point to each.
func (s site) fewest(moved []api.Place) int {
	bounds, n := s.bounds(s.links(moved)), len(s.points())
	walks := map[[2]int]int{}
	for p := range n {
		walks[[2]int{p, p}] = 0
	}
	for length := 1; length <= n; length++ {
		longer := map[[2]int]int{}
		for ends, sum := range walks {
			for _, b := range bounds {
				to := [2]int{ends[0], b.To}
				if old, ok := longer[to]; ends[1] == b.From && (!ok || sum+b.Most < old) {
					longer[to] = sum + b.Most
				}
			}
		}
		walks = longer
		for p := range n {
			if walks[[2]int{p, p}] < 0 {
				return length
			}
		}
	}
	return 0
}

// allSets are all sets of movable places, in their order.
func (s site) allSets() [][]api.Place {
	var l [][]api.Place
	var more func(begun []api.Place, left []api.Admit)
	more = func(begun []api.Place, left []api.Admit) {
		l = append(l, begun)
		for i, x := range left {
			more(append(slices.Clone(begun), x.Place), left[i+1:])
		}
	}
	more(nil, s.admits())
	return l
}

func (s site) costOf(moved []api.Place) int {
	cost := 0
	for _, x := range s.admits() {
		if slices.Contains(moved, x.Place) {
			cost += x.Cost
		}
	}
	return cost
}

// cheapest are the cheapest sets that are enough, in their order; false if there are none.
func (s site) cheapest() (int, [][]api.Place, bool) {
	least, found := -1, [][]api.Place(nil)
	for _, moved := range s.allSets() {
		if !s.hasDates(moved) {
			continue
		}
		cost := s.costOf(moved)
		if least < 0 || cost < least {
			least, found = cost, nil
		}
		if cost == least {
			found = append(found, moved)
		}
	}
	return least, found, least >= 0
}

// touched are the movable places that a bond of a circle touches.
func (s site) touched(moved []api.Place, circle []api.Link) []api.Place {
	var l []api.Place
	for _, x := range s.admits() {
		is := slices.ContainsFunc(s.b, func(b api.Bond) bool {
			of := slices.Contains(circle, api.Link{From: b.A, To: b.B, By: b.By}) || slices.Contains(circle, api.Link{From: b.B, To: b.A, By: b.By})
			return of && counts(b, moved) && (b.A == x.Place || b.B == x.Place)
		})
		if is {
			l = append(l, x.Place)
		}
	}
	return l
}

func withPlace(moved []api.Place, p api.Place) []api.Place {
	l := append(slices.Clone(moved), p)
	slices.SortFunc(l, func(p, q api.Place) int { return 100*(p.Pit-q.Pit) + p.Layer - q.Layer })
	return l
}

// below is what stands behind the tree for a set; false if there is no tree for n.
func (s site) below(moved []api.Place, n int, p []api.Cut) ([]api.Cut, bool) {
	if len(p) == 0 {
		return nil, false
	}
	circle, left := p[0].Circle, p[1:]
	if len(circle) == 0 {
		return left, s.costOf(moved) >= n
	}
	if !s.isConflict(moved, circle) {
		return nil, false
	}
	for _, x := range s.touched(moved, circle) {
		behind, ok := s.below(withPlace(moved, x), n, left)
		if !ok {
			return nil, false
		}
		left = behind
	}
	return left, true
}

// isProof is what the chapter calls a proof for n.
func (s site) isProof(n int, p []api.Cut) bool {
	left, ok := s.below(nil, n, p)
	return ok && len(left) == 0
}

// dice throws numbers that are the same in every run.
type dice struct{ *rand.Rand }

func newDice(seed uint64) dice { return dice{rand.New(rand.NewPCG(seed, 8))} }

// area is where places are taken from.
type area struct{ pits, layers int }

func (d dice) anyPlace(a area) api.Place { return at(1+d.IntN(a.pits), 1+d.IntN(a.layers)) }

// anyTrace is a well-formed one; one that withdraws is left to its caller.
func (d dice) anyTrace(a area, kinds []int) api.Trace {
	p := d.anyPlace(a)
	x := api.Trace{Kind: uint8(oracle.OneOf(d, kinds...)), Pit: p.Pit, Layer: p.Layer}
	switch x.Kind {
	case api.TraceAbove:
		x.Lower = 1 + (p.Layer+d.IntN(a.layers-1))%a.layers
	case api.TraceDated:
		x.Low = oracle.OneOf(d, -10000, 10000, d.IntN(9)-4, d.IntN(9)-4, d.IntN(9)-4, d.IntN(9)-4)
		x.High = oracle.OneOf(d, x.Low, min(x.Low+d.IntN(6), 10000), min(x.Low+d.IntN(6), 10000), 10000)
	case api.TraceMoved:
		x.Cost = oracle.OneOf(d, 1, 2, 3, 1+d.IntN(1000))
	}
	return x
}

// anyLog is a log of so many traces, with days up to 4.
func (d dice) anyLog(n int, a area) []api.Trace {
	kinds := [][]int{{1, 2, 3}, {1, 1, 1, 2, 3, 3}, {1, 1, 2, 3, 3, 3}, {1, 2, 2, 2, 3, 3, 3}, {1, 1, 1, 1, 2}}[d.IntN(5)]
	ids, often := d.Perm(2*n), oracle.OneOf(d, 3, 8, 100)
	var l []api.Trace
	for i := range n {
		x := d.anyTrace(a, kinds)
		if i > 0 && d.IntN(often) == 0 {
			of := l[d.IntN(i)]
			if of.Kind != api.TraceVoid && !withdrawn(l, 4, of.Id) {
				x = api.Trace{Kind: api.TraceVoid, Of: of.Id}
			}
		}
		x.Id, x.Known = 1+ids[i], 4*i/n
		if d.IntN(4) > 0 && i > 0 {
			x.Known = l[i-1].Known
		}
		l = append(l, x)
	}
	return l
}

func (d dice) anyBonds(n int, a area) []api.Bond {
	var l []api.Bond
	for len(l) < n {
		b := api.Bond{A: d.anyPlace(a), B: d.anyPlace(a), By: 1 + d.IntN(30)}
		if b.A != b.B {
			l = append(l, b)
		}
	}
	return l
}

// put appends a trace to a log, with the next Id.
func (s *site) put(x api.Trace) {
	x.Id = len(s.l) + 1
	s.l = append(s.l, x)
}

// putMovable appends, for some layers, that they may have been disturbed.
func (d dice) putMovable(s *site, pit, layers int) {
	for i := range layers {
		if d.IntN(4) > 0 {
			s.put(api.Trace{Kind: api.TraceMoved, Pit: pit, Layer: 1 + i, Cost: 1 + d.IntN(4)})
		}
	}
}

// chain appends a contradiction that leads through several bonds.
func (d dice) chain(s *site, pit, layers int) {
	order := d.Perm(layers)
	s.put(api.Trace{Kind: api.TraceDated, Pit: pit, Layer: 1 + order[0], Low: 5, High: 9})
	s.put(api.Trace{Kind: api.TraceDated, Pit: pit, Layer: 1 + order[layers-1], Low: -9, High: d.IntN(5)})
	for i := range layers - 1 {
		for range 1 + d.IntN(2) {
			s.b = append(s.b, api.Bond{A: at(pit, 1+order[i]), B: at(pit, 1+order[i+1]), By: 50 + i})
		}
	}
	d.putMovable(s, pit, layers)
}

// star appends a layer with bonds to others that have other years.
func (d dice) star(s *site, pit, layers int) {
	for i := range layers - 1 {
		s.put(api.Trace{Kind: api.TraceDated, Pit: pit, Layer: 2 + i, Low: i / 2, High: i / 2})
		s.b = append(s.b, api.Bond{A: at(pit, 1), B: at(pit, 2+i), By: 60 + i})
	}
	d.putMovable(s, pit, layers)
}

// torn is a site with several contradictions, the bonds of which movable places touch.
func (d dice) torn() site {
	var s site
	pits := 1 + d.IntN(3)
	for pit := range pits {
		if layers := 2 + d.IntN(7-2*pits+1); d.IntN(2) == 0 {
			d.chain(&s, 1+pit, layers)
		} else {
			d.star(&s, 1+pit, layers)
		}
	}
	d.Shuffle(len(s.b), func(i, j int) { s.b[i], s.b[j] = s.b[j], s.b[i] })
	s.b = append(s.b, d.anyBonds(d.IntN(3), area{pits, 3})...)
	return s
}

func (d dice) anySite() site {
	if d.IntN(3) == 0 {
		return d.torn()
	}
	a := []area{{1, 2}, {1, 4}, {1, 6}, {2, 3}, {3, 2}, {20, 50}}[d.IntN(6)]
	return site{d.anyLog(d.IntN(12), a), d.IntN(6) - 1, d.anyBonds(oracle.OneOf(d, 0, 1, 2, 3, 5), a)}
}

// anyMoved is an ascending list of movable places.
func (d dice) anyMoved(s site) []api.Place {
	l := s.allSets()
	return l[d.IntN(len(l))]
}

// eachSite calls f with the sites of the examples, and with many by dice.
func eachSite(t *testing.T, seed uint64, times int, f func(d dice, s site)) {
	t.Helper()
	d := newDice(seed)
	for day := range 4 {
		f(d, example(t, day))
	}
	f(d, site{})
	for range times {
		s := d.anySite()
		if i, e := stratum.Check(s.l); e != api.OK {
			t.Fatalf("Check(%+v): %d, error %d", s.l, i, e)
		}
		if len(s.admits()) <= 8 && len(s.places()) <= 50 {
			f(d, s)
		}
	}
}

// want holds results against what they should be; empty lists are alike.
func want(t *testing.T, what any, got, want []any) {
	t.Helper()
	if a, b := fmt.Sprintf("%+v", got), fmt.Sprintf("%+v", want); a != b {
		t.Errorf("%+v: %s, want %s", what, a, b)
	}
}

// all is several results as one list.
func all(x ...any) []any { return x }
