package stratum_test

import (
	"math"
	"slices"
	"testing"

	"conjoin/api"
	"conjoin/oracle"
	"conjoin/stratum"
)

// TestLinks is Links of H3.
func TestLinks(t *testing.T) {
	lost := 0
	eachSite(t, 3, 1500, func(d dice, s site) {
		moved := d.anyMoved(s)
		want(t, all(s, moved), all(stratum.Links(s.l, s.day, s.b, moved)), all(s.links(moved), api.OK))
		if len(s.links(moved)) < len(s.links(nil)) {
			lost++
		}
	})
	if lost < 100 {
		t.Errorf("only %d times fewer links", lost)
	}
	link := func(from, to api.Place, most, by int) api.Link {
		return api.Link{From: from, To: to, Most: most, By: by}
	}
	s, y := example(t, 2), at(0, 0)
	l := []api.Link{
		link(at(1, 1), at(1, 2), -1, 1), link(at(1, 2), at(1, 3), -1, 2), link(y, at(1, 3), 120, 3), link(at(1, 3), y, -100, 3), link(y, at(2, 1), 95, 4), link(at(2, 1), y, -90, 4),
		link(at(1, 1), at(2, 1), 0, 40), link(at(2, 1), at(1, 1), 0, 40),
	}
	want(t, "the example", all(stratum.Links(s.l, 2, s.b, nil)), all(l, api.OK))
	want(t, "the example, one admitted", all(stratum.Links(s.l, 2, s.b, []api.Place{at(1, 1)})), all(l[:6], api.OK))
}

// spoiltDates are lists that are nearly dates.
func (d dice) spoiltDates(l []api.Dating) [][]api.Dating {
	lists := [][]api.Dating{nil, append(slices.Clone(l), api.Dating{Place: at(20, 50)}), append([]api.Dating{{}}, l...)}
	for i := range l {
		change := func(x api.Dating) {
			m := slices.Clone(l)
			m[i] = x
			lists = append(lists, m)
		}
		for _, n := range []int{1, -1, 2, -2, d.IntN(40) - 20} {
			change(api.Dating{Place: l[i].Place, Year: l[i].Year + n})
		}
		for _, n := range []int{1000000, 1000001, -1000000, -1000001, math.MinInt, math.MaxInt} {
			change(api.Dating{Place: l[i].Place, Year: n})
		}
		change(api.Dating{Place: d.anyPlace(area{2, 5}), Year: l[i].Year})
		lists = append(lists, slices.Delete(slices.Clone(l), i, i+1), slices.Insert(slices.Clone(l), i, l[i]))
		if i > 0 {
			m := slices.Clone(l)
			m[i-1], m[i] = m[i], m[i-1]
			lists = append(lists, m)
		}
	}
	return lists
}

// TestDates is Dates and CheckDates of H3, and P8.2.
func TestDates(t *testing.T) {
	yes, no, accepted := 0, 0, 0
	eachSite(t, 4, 2500, func(d dice, s site) {
		moved := d.anyMoved(s)
		l, ok, e := stratum.Dates(s.l, s.day, s.b, moved)
		want(t, all(s, moved), all(ok, e), all(s.hasDates(moved), api.OK))
		if !ok {
			no++
			want(t, all(s, moved), all(len(l)), all(0))
			// Of lists that are nearly dates, none is accepted either.
			for _, p := range s.places() {
				l = append(l, api.Dating{Place: p, Year: d.IntN(9)})
			}
		} else {
			yes++
			want(t, all(s, moved, l), all(s.areDates(moved, l)), all(true))
		}
		for _, m := range append(d.spoiltDates(l), l) {
			is := s.areDates(moved, m)
			want(t, all(s, moved, m), all(stratum.CheckDates(s.l, s.day, s.b, moved, m)), all(is, api.OK))
			if is {
				accepted++
			}
		}
	})
	if yes < 500 || no < 500 || accepted < 4000 {
		t.Errorf("%d times dates, %d times none, %d accepted", yes, no, accepted)
	}
}

// TestFarDates is that dates are within the years that there are, however long the paths between places are.
func TestFarDates(t *testing.T) {
	for _, high := range []int{-10000, 10000} {
		for _, up := range []int{0, 1} {
			s := site{}
			for i := range 49 {
				s.l = append(s.l, api.Trace{Id: i + 1, Kind: api.TraceAbove, Pit: 1, Layer: 1 + i + up, Lower: 2 + i - up})
			}
			s.l = append(s.l, api.Trace{Id: 99, Kind: api.TraceDated, Pit: 1, Layer: 25, Low: high, High: high})
			l, ok, e := stratum.Dates(s.l, 0, nil, nil)
			want(t, high, all(s.areDates(nil, l), ok, e), all(true, true, api.OK))
			want(t, high, all(stratum.CheckDates(s.l, 0, nil, nil, l)), all(true, api.OK))
		}
	}
	s := site{l: row(50, api.Trace{Kind: api.TraceMoved, Cost: 1})[:8]}
	var l []api.Dating
	for i, p := range s.places() {
		l = append(l, api.Dating{Place: p, Year: 1000000 * (i%3 - 1)})
	}
	want(t, "no links", all(stratum.CheckDates(s.l, 0, nil, nil, l)), all(true, api.OK))
}

// TestConflict is Conflict of H4, and P8.2.
func TestConflict(t *testing.T) {
	lengths := map[int]int{}
	eachSite(t, 5, 2500, func(d dice, s site) {
		moved := d.anyMoved(s)
		c, ok, e := stratum.Conflict(s.l, s.day, s.b, moved)
		want(t, all(s, moved), all(ok, e), all(!s.hasDates(moved), api.OK))
		want(t, all(s, moved), all(len(c)), all(s.fewest(moved)))
		want(t, all(s, moved, c), all(s.isConflict(moved, c)), all(ok))
		want(t, all(s, moved, c), all(stratum.CheckConflict(s.l, s.day, s.b, moved, c)), all(ok, api.OK))
		lengths[len(c)]++
	})
	for n, least := range map[int]int{0: 500, 2: 200, 3: 100, 4: 50, 5: 10, 6: 5} {
		if lengths[n] < least {
			t.Errorf("%d links only %d times", n, lengths[n])
		}
	}
}

// anyWalk is links each one of which ends where the next one begins, which perhaps come back.
func (d dice) anyWalk(links []api.Link) []api.Link {
	if len(links) == 0 {
		return nil
	}
	c := []api.Link{links[d.IntN(len(links))]}
	for range d.IntN(7) {
		if c[len(c)-1].To == c[0].From && d.IntN(4) > 0 {
			break
		}
		var next []api.Link
		for _, l := range links {
			if l.From == c[len(c)-1].To {
				next = append(next, l)
			}
		}
		if len(next) == 0 {
			break
		}
		c = append(c, next[d.IntN(len(next))])
	}
	return c
}

// spoiltLinks are lists that are nearly some links.
func (d dice) spoiltLinks(c []api.Link) [][]api.Link {
	lists := [][]api.Link{nil, slices.Concat(c, c), append(slices.Clone(c), api.Link{}), {{}}, {{}, {}}}
	for i := range c {
		m := slices.Clone(c)
		switch d.IntN(4) {
		case 0:
			m[i].Most--
		case 1:
			m[i].By++
		case 2:
			m[i].From, m[i].To = m[i].To, m[i].From
		case 3:
			m[i].To.Layer++
		}
		lists = append(lists, m, slices.Concat(c[i:], c[:i]), slices.Delete(slices.Clone(c), i, i+1), slices.Insert(slices.Clone(c), i, c[i]))
	}
	m := slices.Clone(c)
	slices.Reverse(m)
	return append(lists, m)
}

// TestCheckConflict is CheckConflict of H4.
func TestCheckConflict(t *testing.T) {
	yes, long, no := 0, 0, 0
	eachSite(t, 6, 2500, func(d dice, s site) {
		moved := d.anyMoved(s)
		c, _, _ := stratum.Conflict(s.l, s.day, s.b, moved)
		lists := d.spoiltLinks(c)
		for range 8 {
			lists = append(lists, d.anyWalk(s.links(moved)), d.anyWalk(s.links(nil)))
		}
		for _, m := range lists {
			is := s.isConflict(moved, m)
			want(t, all(s, moved, m), all(stratum.CheckConflict(s.l, s.day, s.b, moved, m)), all(is, api.OK))
			switch {
			case !is:
				no++
			case len(m) > len(c):
				long++
			default:
				yes++
			}
			if is && s.hasDates(moved) {
				t.Errorf("%+v, %v: %v although there are dates", s, moved, m)
			}
		}
	})
	if yes < 1000 || long < 50 || no < 10000 {
		t.Errorf("%d contradictions, %d longer ones, %d that are none", yes, long, no)
	}
}

// TestCircles is which circles are contradictions.
func TestCircles(t *testing.T) {
	l := lines(t, "1 0 dated 1 1 5 9", "2 0 dated 1 1 1 4", "3 0 dated 1 2 0 0", "4 0 above 1 1 2", "5 0 above 1 2 1", "6 0 dated 1 3 7 7", "7 0 dated 1 3 8 8")
	y, a, b, c := at(0, 0), at(1, 1), at(1, 2), at(1, 3)
	link := func(from, to api.Place, most, by int) api.Link {
		return api.Link{From: from, To: to, Most: most, By: by}
	}
	high, low, above, below := link(y, a, 4, 2), link(a, y, -5, 1), link(a, b, -1, 4), link(b, a, -1, 5)
	up, down := link(y, c, 7, 6), link(c, y, -8, 7)
	for _, x := range []struct {
		c  []api.Link
		is bool
	}{
		{[]api.Link{high, low}, true}, {[]api.Link{low, high}, true}, {[]api.Link{above, below}, true}, {[]api.Link{below, above}, true},
		{[]api.Link{high, link(a, y, -1, 2)}, false}, {[]api.Link{link(y, a, 9, 1), low}, false}, {[]api.Link{link(y, a, 9, 1), above, link(b, y, 0, 3)}, false},
		{[]api.Link{low}, false}, {[]api.Link{above}, false}, {[]api.Link{above, above}, false}, {[]api.Link{high, low, high, low}, false},
		{[]api.Link{high, low, up, down}, false}, {[]api.Link{up, down}, true}, {[]api.Link{above, below, above, below}, false},
		{[]api.Link{high, above, below, low}, false}, {[]api.Link{high, above, link(b, y, 0, 3)}, false}, {[]api.Link{high, above, link(b, y, -4, 3)}, false},
		{[]api.Link{low, link(y, b, 0, 3), below}, true}, {[]api.Link{low, below, link(y, b, 0, 3)}, false}, {[]api.Link{{}, {}}, false}, {nil, false},
		{[]api.Link{link(y, y, -1, 0)}, false}, {[]api.Link{low, link(y, b, 0, 3)}, false},
	} {
		want(t, x.c, all(stratum.CheckConflict(l, 0, nil, nil, x.c)), all(x.is, api.OK))
		want(t, x.c, all(site{l: l}.isConflict(nil, x.c)), all(x.is))
	}
}

// TestBetween is Between and Path of H5, and P8.4.
func TestBetween(t *testing.T) {
	bounded, free, none := 0, 0, 0
	eachSite(t, 7, 700, func(d dice, s site) {
		moved := d.anyMoved(s)
		gaps, dated := s.gaps(moved)
		for _, from := range s.points() {
			for _, to := range s.points() {
				most, ok, e := stratum.Between(s.l, s.day, s.b, moved, from, to)
				path, shown, f := stratum.Path(s.l, s.day, s.b, moved, from, to)
				what := all(s, moved, from, to, path)
				want(t, what, all(f), all(e))
				switch n := gaps[[2]api.Place{from, to}]; {
				case !dated:
					none++
					want(t, what, all(most, ok, e), all(0, false, api.ErrYears))
				case n == oracle.Far:
					free++
					want(t, what, all(most, ok, e), all(0, false, api.OK))
				default:
					bounded++
					want(t, what, all(most, ok, e), all(n, true, api.OK))
				}
				want(t, what, all(shown, s.leads(moved, path, from, to) || !ok, sumOf(path)), all(ok, true, most))
			}
		}
	})
	if bounded < 1000 || free < 1000 || none < 1000 {
		t.Errorf("%d bounded, %d free, %d without dates", bounded, free, none)
	}
}

// leads says whether some of the links, in a row, lead from a place to another one.
func (s site) leads(moved []api.Place, path []api.Link, from, to api.Place) bool {
	links := s.links(moved)
	for _, l := range path {
		if !slices.Contains(links, l) || l.From != from {
			return false
		}
		from = l.To
	}
	return from == to
}

// TestAttained is P8.4: what Between says is the gap of some dates, and of none more.
func TestAttained(t *testing.T) {
	attained := 0
	eachSite(t, 8, 300, func(d dice, s site) {
		moved := d.anyMoved(s)
		points, bounds := s.points(), s.bounds(s.links(moved))
		if !s.hasDates(moved) {
			return
		}
		for i, from := range points {
			for j, to := range points {
				most, ok, _ := stratum.Between(s.l, s.day, s.b, moved, from, to)
				if !ok || i == j {
					continue
				}
				for _, n := range []int{most, most + 1} {
					tied := append(slices.Clone(bounds), api.Bound{From: i, To: j, Most: n}, api.Bound{From: j, To: i, Most: -n})
					_, can := oracle.Differences(len(points), tied)
					want(t, all(s, moved, from, to, n), all(can), all(n == most))
				}
				attained++
			}
		}
	})
	if attained < 1000 {
		t.Errorf("only %d gaps", attained)
	}
}

// TestExamplesOfDates are the examples of the chapter.
func TestExamplesOfDates(t *testing.T) {
	s, y := example(t, 2), at(0, 0)
	want(t, "places", all(stratum.Places(s.l, 0, nil)), all([]api.Place{at(1, 1), at(1, 2), at(1, 3)}, api.OK))
	want(t, "places", all(stratum.Places(s.l, 1, s.b)), all([]api.Place{at(1, 1), at(1, 2), at(1, 3), at(2, 1)}, api.OK))
	want(t, "movable", all(stratum.Movable(s.l, 2, s.b)), all([]api.Admit{{Place: at(1, 1), Cost: 5, By: 5}, {Place: at(2, 1), Cost: 3, By: 6}}, api.OK))
	want(t, "at least 102", all(stratum.Between(s.l, 0, nil, nil, at(1, 1), y)), all(-102, true, api.OK))
	want(t, "no greatest one", all(stratum.Between(s.l, 0, nil, nil, y, at(1, 1))), all(0, false, api.OK))
	want(t, "no path", all(stratum.Path(s.l, 0, nil, nil, y, at(1, 1))), all([]api.Link{}, false, api.OK))
	want(t, "one place", all(stratum.Path(s.l, 0, nil, nil, at(1, 1), at(1, 1))), all([]api.Link{}, true, api.OK))
	c, ok, e := stratum.Conflict(s.l, 1, s.b, nil)
	want(t, c, all(len(c), ok, e, stratum.Ids(c)), all(5, true, api.OK, []int{1, 2, 3, 4, 40}))
}
