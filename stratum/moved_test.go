package stratum_test

import (
	"math"
	"slices"
	"testing"

	"conjoin/api"
	"conjoin/oracle"
	"conjoin/stratum"
)

// TestCheapest is Cheapest and Sets of H6.
func TestCheapest(t *testing.T) {
	none, free, several, wide := 0, 0, 0, 0
	eachSite(t, 9, 2500, func(d dice, s site) {
		least, sets, ok := s.cheapest()
		if !ok {
			none++
			want(t, s, all(stratum.Cheapest(s.l, s.day, s.b)), all(0, []api.Place{}, api.ErrYears))
			want(t, s, all(stratum.Sets(s.l, s.day, s.b)), all([][]api.Place{}, api.ErrYears))
			return
		}
		want(t, s, all(stratum.Cheapest(s.l, s.day, s.b)), all(least, sets[0], api.OK))
		want(t, s, all(stratum.Sets(s.l, s.day, s.b)), all(sets, api.OK))
		switch {
		case least == 0:
			free++
		case len(sets) > 1:
			several++
		case len(sets[0]) > 1:
			wide++
		}
	})
	if none < 100 || free < 300 || several < 100 || wide < 30 {
		t.Errorf("%d times no set, %d times the empty one, %d times several, %d times one of several places", none, free, several, wide)
	}
}

// twins is a site with so many pairs of layers, each of which contradicts itself unless one of both is admitted.
func twins(n int, cost func(i int) int) site {
	var s site
	for i := range n {
		p, q := at(1+i/2, 1+2*(i%2)), at(1+i/2, 2+2*(i%2))
		s.l = append(s.l, api.Trace{Id: 10*i + 1, Kind: api.TraceAbove, Pit: p.Pit, Layer: p.Layer, Lower: q.Layer})
		for j, x := range []api.Place{p, q} {
			s.l = append(s.l, api.Trace{Id: 10*i + 2 + j, Kind: api.TraceMoved, Pit: x.Pit, Layer: x.Layer, Cost: cost(i)})
		}
		s.b = append(s.b, api.Bond{A: q, B: p, By: 10*i + 5})
	}
	return s
}

// TestManySets is that there can be many cheapest sets, in their order, and what costs most.
func TestManySets(t *testing.T) {
	s := twins(4, func(int) int { return 1000 })
	least, sets, _ := s.cheapest()
	want(t, "16 sets", all(least, len(sets)), all(4000, 16))
	want(t, "16 sets", all(stratum.Sets(s.l, 0, s.b)), all(sets, api.OK))
	want(t, "the first one", all(stratum.Cheapest(s.l, 0, s.b)), all(4000, []api.Place{at(1, 1), at(1, 3), at(2, 1), at(2, 3)}, api.OK))
	// All eight cost 8000, and are needed.
	s = twins(8, func(i int) int { return 1000 })
	s.l = slices.DeleteFunc(s.l, func(x api.Trace) bool { return x.Kind == api.TraceMoved && x.Id%10 == 3 })
	eight := s.places()
	eight = slices.DeleteFunc(eight, func(p api.Place) bool { return p.Layer%2 == 0 })
	want(t, "eight", all(stratum.Cheapest(s.l, 0, s.b)), all(8000, eight, api.OK))
	p, e := stratum.Proof(s.l, 0, s.b)
	want(t, "eight", all(e, len(p), s.isProof(8000, p), s.isProof(8001, p)), all(api.OK, 9, true, false))
	// Without dates for any set, the proof is for more than that.
	s.l = append(s.l, lines(t, "901 0 above 20 1 2", "902 0 above 20 2 1")...)
	want(t, "none", all(stratum.Cheapest(s.l, 0, s.b)), all(0, []api.Place{}, api.ErrYears))
	p, e = stratum.Proof(s.l, 0, s.b)
	want(t, "none", all(e, s.isProof(8008, p), s.isProof(math.MaxInt, p)), all(api.OK, true, true))
	for _, n := range []int{8008, 8009, math.MaxInt, 0, math.MinInt} {
		want(t, n, all(stratum.CheckProof(s.l, 0, s.b, n, p)), all(true, api.OK))
	}
}

// TestProof is Proof of H7, and P8.3.
func TestProof(t *testing.T) {
	large := 0
	eachSite(t, 10, 2500, func(d dice, s site) {
		n, _, ok := s.cheapest()
		if !ok {
			n = 8008
		}
		p, e := stratum.Proof(s.l, s.day, s.b)
		want(t, all(s, p), all(e, s.isProof(n, p)), all(api.OK, true))
		want(t, all(s, p), all(stratum.CheckProof(s.l, s.day, s.b, n, p)), all(true, api.OK))
		if ok {
			want(t, all(s, p), all(stratum.CheckProof(s.l, s.day, s.b, n+1, p)), all(s.isProof(n+1, p), api.OK))
			want(t, all(s, p), all(s.isProof(n+1, p)), all(false))
		}
		if len(p) > 5 {
			large++
		}
	})
	if large < 50 {
		t.Errorf("only %d large proofs", large)
	}
}

// TestOwnCircles is that no two cuts of a proof share memory, although the same places are admitted more than once.
func TestOwnCircles(t *testing.T) {
	s := twins(4, func(i int) int { return 1 + i })
	p, _ := stratum.Proof(s.l, 0, s.b)
	seen := map[*api.Link]bool{}
	alike := false
	for i, x := range p {
		if len(x.Circle) == 0 {
			continue
		}
		if seen[&x.Circle[0]] {
			t.Errorf("the cut %d shares its circle", i)
		}
		seen[&x.Circle[0]] = true
		alike = alike || slices.ContainsFunc(p[:i], func(y api.Cut) bool { return slices.Equal(x.Circle, y.Circle) })
	}
	if !alike {
		t.Error("no circle comes twice")
	}
}

// anyConflict is a contradiction, not always with the fewest links; none if there is none.
func (d dice) anyConflict(s site, moved []api.Place) []api.Link {
	links := s.links(moved)
	for range 5 {
		if c := d.anyWalk(links); s.isConflict(moved, c) {
			return c
		}
	}
	c, _, _ := stratum.Conflict(s.l, s.day, s.b, moved)
	if len(c) > 0 {
		i := d.IntN(len(c))
		c = slices.Concat(c[i:], c[:i])
	}
	return c
}

// anyTree is cuts for a set; a tree for n, if there is one.
func (d dice) anyTree(s site, moved []api.Place, n int) []api.Cut {
	if s.costOf(moved) >= n && d.IntN(8) > 0 {
		return []api.Cut{{}}
	}
	p := []api.Cut{{Circle: d.anyConflict(s, moved)}}
	for _, x := range s.touched(moved, p[0].Circle) {
		p = append(p, d.anyTree(s, withPlace(moved, x), n)...)
	}
	return p
}

// spoiltCuts is a list of cuts with something else in it.
func (d dice) spoiltCuts(s site, p []api.Cut) []api.Cut {
	p = slices.Clone(p)
	i := d.IntN(len(p))
	switch d.IntN(6) {
	case 0:
		return slices.Delete(p, i, i+1)
	case 1:
		return slices.Insert(p, i, p[d.IntN(len(p))])
	case 2:
		return append(p, api.Cut{})
	case 3:
		p[i].Circle = d.anyConflict(s, d.anyMoved(s))
	case 4:
		p[i], p[0] = p[0], p[i]
	case 5:
		l := d.spoiltLinks(p[i].Circle)
		p[i].Circle = l[d.IntN(len(l))]
	}
	return p
}

// TestCheckProof is CheckProof of H7, and P8.3.
func TestCheckProof(t *testing.T) {
	yes, large, no := 0, 0, 0
	eachSite(t, 11, 1500, func(d dice, s site) {
		least, _, ok := s.cheapest()
		check := func(n int, p []api.Cut) {
			is := s.isProof(n, p)
			want(t, all(s, n, p), all(stratum.CheckProof(s.l, s.day, s.b, n, p)), all(is, api.OK))
			if !is {
				no++
				return
			}
			yes++
			if ok && least < n {
				t.Errorf("%+v: a proof for %d, although some set costs %d", s, n, least)
			}
			if len(p) > 4 {
				large++
			}
		}
		for range 4 {
			n := oracle.OneOf(d, least-1, least, least, least, least+1, 0, 3)
			p := d.anyTree(s, nil, n)
			check(n, p)
			for range 3 {
				check(n, d.spoiltCuts(s, p))
			}
		}
		check(0, nil)
	})
	if yes < 3000 || large < 500 || no < 3000 {
		t.Errorf("%d proofs, %d large ones, %d lists that are none", yes, large, no)
	}
}

// TestManyCuts is the limit of a proof.
func TestManyCuts(t *testing.T) {
	s := example(t, 2)
	p, _ := stratum.Proof(s.l, 2, s.b)
	long := append(p, make([]api.Cut, 200000)...)
	want(t, 200000, all(stratum.CheckProof(s.l, 2, s.b, 3, long[:200000])), all(false, api.OK))
	want(t, 200001, all(stratum.CheckProof(s.l, 2, s.b, 3, long[:200001])), all(false, api.ErrLimit))
	want(t, "no log", all(stratum.CheckProof(append(s.l, s.l[0]), 2, s.b, 3, long)), all(false, api.ErrTwice))
	want(t, "no bonds", all(stratum.CheckProof(s.l, 2, make([]api.Bond, 1), 3, long)), all(false, api.ErrArg))
}

// TestExamplesOfMoved are the examples of the chapter.
func TestExamplesOfMoved(t *testing.T) {
	s := example(t, 2)
	want(t, "cheapest", all(stratum.Cheapest(s.l, 2, s.b)), all(3, []api.Place{at(2, 1)}, api.OK))
	want(t, "sets", all(stratum.Sets(s.l, 2, s.b)), all([][]api.Place{{at(2, 1)}}, api.OK))
	want(t, "too early", all(stratum.Cheapest(s.l, 1, s.b)), all(0, []api.Place{}, api.ErrYears))
	p, e := stratum.Proof(s.l, 2, s.b)
	want(t, p, all(len(p), stratum.Ids(p[0].Circle), p[1:], e), all(3, []int{1, 2, 3, 4, 40}, make([]api.Cut, 2), api.OK))
	for _, x := range []struct {
		from, to api.Place
		answer   uint8
	}{{at(2, 1), at(1, 1), 1}, {at(1, 1), at(2, 1), 2}, {at(1, 3), at(0, 0), 2}} {
		want(t, x, all(stratum.Earlier(s.l, 2, s.b, x.from, x.to)), all(x.answer, api.OK))
	}
}

// TestEarlier is Earlier of H8, and P8.5.
func TestEarlier(t *testing.T) {
	answers, split := map[uint8]int{}, 0
	eachSite(t, 12, 400, func(d dice, s site) {
		_, sets, ok := s.cheapest()
		for _, from := range s.points() {
			for _, to := range s.points() {
				answer, e := stratum.Earlier(s.l, s.day, s.b, from, to)
				if !ok {
					want(t, all(s, from, to), all(answer, e), all(0, api.ErrYears))
					continue
				}
				right, differs := earlierOf(s, sets, from, to)
				want(t, all(s, from, to), all(answer, e), all(right, api.OK))
				other, _ := stratum.Earlier(s.l, s.day, s.b, to, from)
				if answer == api.EarlierSure && other == api.EarlierSure {
					t.Errorf("%+v: %v and %v are earlier than each other", s, from, to)
				}
				answers[answer]++
				if differs {
					split++
				}
			}
		}
	})
	if answers[1] < 1000 || answers[2] < 1000 || answers[3] < 1000 || split < 100 {
		t.Errorf("%v, %d that differ", answers, split)
	}
}

// earlierOf is the answer about two places with all of some sets, and whether it is another one with the first of them alone.
func earlierOf(s site, sets [][]api.Place, from, to api.Place) (uint8, bool) {
	answers := map[uint8]bool{}
	first := uint8(0)
	for _, moved := range sets {
		gaps, _ := s.gaps(moved)
		answer := api.EarlierOpen
		if gaps[[2]api.Place{to, from}] < 0 {
			answer = api.EarlierSure
		} else if gaps[[2]api.Place{from, to}] <= 0 {
			answer = api.EarlierNever
		}
		answers[answer] = true
		if first == 0 {
			first = answer
		}
	}
	if len(answers) > 1 {
		return api.EarlierOpen, first != api.EarlierOpen
	}
	return first, false
}

// TestNarrower is P8.6.
func TestNarrower(t *testing.T) {
	fewer, dearer := 0, 0
	eachSite(t, 13, 1200, func(d dice, s site) {
		n := s
		if d.IntN(3) == 0 {
			n.b = append(slices.Clone(s.b), d.anyBonds(1, area{2, 3})...)
		} else {
			x := d.anyTrace(area{2, 3}, []int{1, 2})
			x.Id, x.Known = 1000, 4
			n.l, n.day, s.day = append(slices.Clone(s.l), x), 4, 4
		}
		if len(s.admits()) > 8 {
			return
		}
		moved := d.anyMoved(s)
		if l, ok, _ := stratum.Dates(n.l, n.day, n.b, moved); ok {
			old := slices.DeleteFunc(l, func(x api.Dating) bool { return !slices.Contains(s.places(), x.Place) })
			want(t, all(s, n, moved), all(stratum.CheckDates(s.l, s.day, s.b, moved, old)), all(true, api.OK))
		} else if s.hasDates(moved) {
			fewer++
		}
		if l, ok, _ := stratum.Dates(s.l, s.day, s.b, moved); ok {
			for _, x := range s.admits() {
				if !slices.Contains(moved, x.Place) {
					want(t, all(s, moved), all(stratum.CheckDates(s.l, s.day, s.b, withPlace(moved, x.Place), l)), all(true, api.OK))
				}
			}
		}
		before, _, e := stratum.Cheapest(s.l, s.day, s.b)
		after, _, f := stratum.Cheapest(n.l, n.day, n.b)
		if f == api.OK && (e != api.OK || after < before) {
			t.Errorf("%+v: %d, error %d; with more %d, error %d", s, before, e, after, f)
		}
		if f == api.OK && after > before {
			dearer++
		}
	})
	if fewer < 50 || dearer < 30 {
		t.Errorf("%d times no dates any more, %d times dearer", fewer, dearer)
	}
}

// TestKnowledge is P8.7.
func TestKnowledge(t *testing.T) {
	later, kept := 0, 0
	eachSite(t, 14, 1200, func(d dice, s site) {
		moved := d.anyMoved(s)
		old := site{slices.DeleteFunc(slices.Clone(s.l), func(x api.Trace) bool { return x.Known > s.day }), s.day, s.b}
		if len(old.l) < len(s.l) {
			later++
		}
		want(t, s, all(stratum.Links(old.l, s.day, s.b, moved)), all(stratum.Links(s.l, s.day, s.b, moved)))
		want(t, s, all(stratum.Places(old.l, s.day, s.b)), all(stratum.Places(s.l, s.day, s.b)))
		want(t, s, all(stratum.Sets(old.l, s.day, s.b)), all(stratum.Sets(s.l, s.day, s.b)))
		c, _, _ := stratum.Conflict(s.l, s.day, s.b, moved)
		for _, x := range old.l {
			void := api.Trace{Id: 1000, Known: s.day, Kind: api.TraceVoid, Of: x.Id}
			less, e := stratum.Append(old.l, void)
			if e != api.OK || slices.Contains(stratum.Ids(c), x.Id) {
				continue
			}
			is, e := stratum.CheckConflict(less, s.day, s.b, moved, c)
			if e != api.ErrMoved {
				want(t, all(s, moved, c, x), all(is, e), all(len(c) > 0, api.OK))
				kept++
			}
		}
	})
	if later < 200 || kept < 1000 {
		t.Errorf("%d times something is known later, %d times a contradiction is kept", later, kept)
	}
}
