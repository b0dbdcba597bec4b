package gauge_test

import (
	"slices"
	"testing"

	"conjoin/api"
	"conjoin/gauge"
	"conjoin/oracle"
)

// This file has an oracle: slow functions that say by other ways than the package what is right.

func bound(from, to, most, by int) api.Bound {
	return api.Bound{From: from, To: to, Most: most, By: by}
}

func system(points int, bounds ...api.Bound) api.System {
	return api.System{Points: points, Bounds: bounds}
}

// three is the system S of the chapter's examples.
func three() api.System {
	return system(3, bound(0, 1, 5, 7), bound(1, 0, -2, 8), bound(1, 2, 4, 9), bound(2, 1, -4, 9))
}

// bad is the system C of the chapter's examples.
func bad() api.System {
	s := three()
	s.Bounds = append(s.Bounds, bound(1, 0, -6, 5))
	return s
}

// full is a system with as many points and bounds as there may be.
func full() api.System {
	s := api.System{Points: api.MaxPoints}
	for i := range api.MaxBounds {
		from := i % api.MaxPoints
		s.Bounds = append(s.Bounds, bound(from, (from+1+i/api.MaxPoints)%api.MaxPoints, 10, i+1))
	}
	return s
}

// dice are numbers that are the same in every run.
type dice uint64

func (d *dice) below(n int) int {
	*d = *d*6364136223846793005 + 1442695040888963407
	return int(uint64(*d)>>33) % n
}

// anySystem has up to 5 points and 9 bounds, some with one By, some with none.
func (d *dice) anySystem() api.System {
	s := api.System{Points: 1 + d.below(5)}
	if s.Points == 1 {
		return s
	}
	for range d.below(10) {
		s.Bounds = append(s.Bounds, d.anyBound(s.Points))
	}
	return s
}

func (d *dice) anyBound(points int) api.Bound {
	from := d.below(points)
	to := (from + 1 + d.below(points-1)) % points
	return bound(from, to, d.below(10)-3, d.below(6))
}

// eachSystem calls f with the examples and with many systems by dice.
func eachSystem(f func(api.System)) {
	f(three())
	f(bad())
	f(system(1))
	f(system(2))
	d := dice(1)
	for range 1500 {
		f(d.anySystem())
	}
}

// table has the greatest differences of all points against all; false if there is no solution.
func table(s api.System) ([][]int, bool) { return oracle.Differences(s.Points, s.Bounds) }

// endIn is the greatest or the least difference in a table.
func endIn(t [][]int, a, b int, upper bool) (int, bool) {
	if !upper {
		n, ok := endIn(t, b, a, true)
		return -n, ok
	}
	if t[a][b] == oracle.Far {
		return 0, false
	}
	return t[a][b], true
}

// shortest is the number of bounds of the least circle that contradicts itself, 0 if there is none: all lists of bounds that lead on are tried.
func shortest(s api.System) int {
	best := 0
	var try func(first, at, sum int, seen []int)
	try = func(first, at, sum int, seen []int) {
		for _, b := range s.Bounds {
			if b.From != at {
				continue
			}
			if b.To == first {
				if sum+b.Most < 0 && (best == 0 || len(seen) < best) {
					best = len(seen)
				}
			} else if !slices.Contains(seen, b.To) {
				try(first, b.To, sum+b.Most, append(slices.Clone(seen), b.To))
			}
		}
	}
	for p := range s.Points {
		try(p, p, 0, []int{p})
	}
	return best
}

// keeps says whether numbers keep all bounds.
func keeps(s api.System, x []int) bool {
	for _, b := range s.Bounds {
		if x[b.To]-x[b.From] > b.Most {
			return false
		}
	}
	return true
}

// bysOf are the Ids of a system, ascending.
func bysOf(s api.System) []int {
	var l []int
	for _, b := range s.Bounds {
		if b.By != 0 {
			l = append(l, b.By)
		}
	}
	slices.Sort(l)
	return slices.Compact(l)
}

// leave is the system without the bounds of an Id.
func leave(s api.System, by int) api.System {
	t := api.System{Points: s.Points}
	for _, b := range s.Bounds {
		if b.By != by {
			t.Bounds = append(t.Bounds, b)
		}
	}
	return t
}

// needed are the Ids that stay if each one is left out, from the last one on, without which something still holds.
func needed(s api.System, holds func(api.System) bool) []int {
	var kept []int
	ids := bysOf(s)
	for i := len(ids) - 1; i >= 0; i-- {
		if t := leave(s, ids[i]); holds(t) {
			s = t
		} else {
			kept = append([]int{ids[i]}, kept...)
		}
	}
	return kept
}

func wantList(t *testing.T, what string, got []int, want ...int) {
	t.Helper()
	if !slices.Equal(got, want) {
		t.Errorf("%s: %v, want %v", what, got, want)
	}
}

func wantErr(t *testing.T, what string, got, want api.Errno) {
	t.Helper()
	if got != want {
		t.Errorf("%s: error %d, want %d", what, got, want)
	}
}

func wantNumber(t *testing.T, what string, got int, ok bool, e api.Errno, want int, wantOk bool) {
	t.Helper()
	if got != want || ok != wantOk || e != api.OK {
		t.Errorf("%s: %d, %v, error %d, want %d, %v", what, got, ok, e, want, wantOk)
	}
}

func wantSystem(t *testing.T, what string, got api.System, e api.Errno, want api.System) {
	t.Helper()
	if e != api.OK || got.Points != want.Points || !slices.Equal(got.Bounds, want.Bounds) {
		t.Errorf("%s: %v, error %d, want %v", what, got, e, want)
	}
}

// noSystem wants an error, and nothing beside it.
func noSystem(t *testing.T, what string, got api.System, e, want api.Errno) {
	t.Helper()
	wantErr(t, what, e, want)
	if got.Points != 0 || len(got.Bounds) != 0 {
		t.Errorf("%s: %v beside an error", what, got)
	}
}

// solve is Solve of a system that is one.
func solve(t *testing.T, s api.System) ([]int, bool) {
	t.Helper()
	x, ok, e := gauge.Solve(s)
	wantErr(t, "Solve", e, api.OK)
	if !ok && len(x) != 0 {
		t.Errorf("Solve(%v): %v, but none", s, x)
	}
	return x, ok
}
