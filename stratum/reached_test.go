package stratum_test

import (
	"math"
	"slices"
	"testing"

	"conjoin/api"
	"conjoin/stratum"
)

// TestIds is Ids of H9.
func TestIds(t *testing.T) {
	for _, x := range [][2][]int{
		{{}, {}}, {{0}, {}}, {{7, 0, 3, 7}, {3, 7}}, {{0, 0, 5}, {5}}, {{2, 1, 0, -1, math.MaxInt, math.MinInt, 2}, {math.MinInt, -1, 1, 2, math.MaxInt}}, {{4, 3, 2, 1, 2, 3, 4}, {1, 2, 3, 4}},
	} {
		var c []api.Link
		for i, by := range x[0] {
			c = append(c, api.Link{From: at(i, -i), To: at(math.MaxInt, 0), Most: math.MinInt, By: by})
		}
		want(t, x[0], all(stratum.Ids(c)), all(x[1]))
	}
}

// reachedBy are the places that there are on one of two sites alone, or whose first or last year differs; where only one has dates, all.
func reachedBy(s, n site) []api.Place {
	old, dated := s.gaps(nil)
	now, too := n.gaps(nil)
	var l []api.Place
	both := site{l: append(slices.Clone(countingOf(s.l, s.day)), countingOf(n.l, n.day)...), day: n.day, b: s.b}
	for _, p := range both.places() {
		was, is := slices.Contains(s.places(), p), slices.Contains(n.places(), p)
		to, from := [2]api.Place{{}, p}, [2]api.Place{p, {}}
		differs := dated != too || dated && too && (old[to] != now[to] || old[from] != now[from])
		if was != is || differs {
			l = append(l, p)
		}
	}
	return l
}

// TestReached is Reached of H9.
func TestReached(t *testing.T) {
	met := map[string]int{}
	eachSite(t, 15, 3000, func(d dice, s site) {
		a := area{2, 3}
		x := d.anyTrace(a, []int{1, 2, 3})
		if len(s.l) > 0 && d.IntN(3) == 0 {
			x = api.Trace{Kind: api.TraceVoid, Of: s.l[d.IntN(len(s.l))].Id}
		}
		x.Id, x.Known = 1000, 3+d.IntN(2)
		s.day = x.Known
		n := s
		n.l = append(slices.Clone(s.l), x)
		if _, e := refused(n.l); e != api.OK {
			want(t, all(s, x), all(stratum.Reached(s.l, x, s.b)), all([]api.Place{}, e))
			return
		}
		l := reachedBy(s, n)
		want(t, all(s, x), all(stratum.Reached(s.l, x, s.b)), all(l, api.OK))
		switch {
		case s.hasDates(nil) != n.hasDates(nil):
			met["dates in one"]++
		case !s.hasDates(nil) && len(l) == 0:
			met["none without dates"]++
		case !s.hasDates(nil):
			met["others without dates"]++
		case len(s.places()) != len(n.places()):
			met["other places"]++
		case len(l) == 0:
			met["none"]++
		case len(l) < len(s.places()):
			met["some"]++
		default:
			met["all"]++
		}
	})
	for _, name := range []string{"dates in one", "none without dates", "others without dates", "other places", "none", "some", "all"} {
		if met[name] < 25 {
			t.Errorf("%s: %d times", name, met[name])
		}
	}
}

// TestExamplesOfReached is Reached with one trace more each.
func TestExamplesOfReached(t *testing.T) {
	s := example(t, 2)
	for line, l := range map[string][]api.Place{
		"8 2 dated 1 3 100 110": {at(1, 3)}, "8 2 dated 1 3 101 120": {at(1, 1), at(1, 2), at(1, 3)}, "8 2 dated 1 3 100 120": nil, "8 2 moved 1 2 4": nil, "8 2 moved 5 5 4": {at(5, 5)},
		"8 2 above 1 3 4": {at(1, 4)}, "8 2 above 1 4 3": {at(1, 4)}, "8 2 dated 1 2 104 300": {at(1, 1), at(1, 2)}, "8 2 void 4": {at(2, 1)}, "8 2 void 6": nil, "8 2 void 1": {at(1, 1)},
		"8 2 dated 2 1 96 99": s.places(), "8 2 above 7 1 2": {at(7, 1), at(7, 2)}, "8 9 dated 5 5 1 2": {at(5, 5)}, "8 2 above 1 3 1": s.places(),
	} {
		x := lines(t, "1 0 above 1 1 2", "2 0 above 1 2 3", "3 0 dated 1 3 100 120", "4 0 above 2 2 1", "6 0 above 2 2 1", line)[5]
		want(t, line, all(stratum.Reached(s.l, x, nil)), all(l, api.OK))
	}
	for line, l := range map[string][]api.Place{"8 2 void 4": s.places(), "8 2 void 5": nil, "8 2 above 7 1 2": {at(7, 1), at(7, 2)}, "8 2 dated 1 1 0 0": nil, "8 2 void 1": s.places()} {
		x := lines(t, "1 0 above 1 1 2", "4 0 above 2 2 1", "5 0 above 2 2 1", line)[3]
		want(t, line, all(stratum.Reached(s.l, x, s.b)), all(l, api.OK))
	}
}

// TestReachedErrors is the order of the errors of Reached.
func TestReachedErrors(t *testing.T) {
	dated := api.Trace{Kind: api.TraceDated}
	moved := api.Trace{Kind: api.TraceMoved, Cost: 1}
	next := func(x api.Trace) api.Trace {
		x.Id, x.Known, x.Pit, x.Layer = 900, 7, 9, 9
		return x
	}
	void := api.Trace{Id: 900, Known: 7, Kind: api.TraceVoid, Of: 1}
	one := []api.Bond{{A: at(9, 9), B: at(9, 8), By: 3}}
	none, many := make([]api.Bond, 1), make([]api.Bond, 61)
	for _, x := range []struct {
		name string
		l    []api.Trace
		x    api.Trace
		b    []api.Bond
		e    api.Errno
	}{
		{"a bad log", make([]api.Trace, 1), api.Trace{}, many, api.ErrArg}, {"a bad trace", row(51, dated), api.Trace{}, many, api.ErrArg}, {"twice", row(51, dated), row(51, dated)[3], many, api.ErrTwice},
		{"a full log", append(row(51, dated), row(140, moved)[51:]...), next(dated), many, api.ErrLimit},
		{"bad bonds", row(51, dated), next(dated), none, api.ErrArg}, {"many bonds", row(5, dated), next(dated), many, api.ErrLimit},
		{"too many places", row(51, dated), next(moved), nil, api.ErrLimit}, {"too many places without x", row(51, dated), void, nil, api.ErrLimit}, {"just as many", row(50, dated), void, nil, api.OK},
		{"too many with x", row(50, dated), next(dated), nil, api.ErrLimit}, {"as many with x", row(49, dated), next(dated), nil, api.OK}, {"as many with bonds", row(48, dated), next(dated), one, api.OK},
		{"too many with bonds", row(49, dated), next(dated), one, api.ErrLimit}, {"8 movable with x", row(7, moved), next(moved), nil, api.OK}, {"9 movable with x", row(8, moved), next(moved), nil, api.ErrLimit},
		{"8 movable without x", row(9, moved), void, nil, api.ErrLimit},
	} {
		_, e := stratum.Reached(x.l, x.x, x.b)
		want(t, x.name, all(e), all(x.e))
	}
}
