package edge_test

import (
	"slices"
	"testing"

	"conjoin/api"
	"conjoin/edge"
	"conjoin/oracle"
)

// This file has an oracle: slow functions that say what is right as the chapter's words say it, without the package.

func bound(from, to, most, by int) api.Bound {
	return api.Bound{From: from, To: to, Most: most, By: by}
}

func pairing(aFrom, aTo, bFrom, bTo int) api.Pairing {
	return api.Pairing{A: api.Stretch{From: aFrom, To: aTo}, B: api.Stretch{From: bFrom, To: bTo}}
}

// first is the outline a of the chapter's examples.
func first() api.Outline {
	return api.Outline{
		Corners: 3,
		Ways:    []api.Bound{bound(0, 1, 12, 1), bound(1, 0, -10, 1), bound(1, 2, 22, 2), bound(2, 1, -20, 2), bound(2, 3, 5, 3), bound(3, 2, -5, 3)},
		Turns:   []api.Bound{bound(0, 1, 100, 4), bound(1, 0, -90, 4), bound(1, 2, 140, 5), bound(2, 1, -100, 5)},
	}
}

// second is the outline b of the chapter's examples.
func second() api.Outline {
	return api.Outline{
		Corners: 3,
		Ways:    []api.Bound{bound(0, 1, 25, 6), bound(1, 0, -20, 6), bound(1, 2, 15, 7), bound(2, 1, -11, 7), bound(2, 3, 9, 8), bound(3, 2, -9, 8)},
		Turns:   []api.Bound{bound(0, 1, -95, 9), bound(1, 0, 120, 9), bound(1, 2, -20, 10), bound(2, 1, 30, 10)},
	}
}

// turned is second with the bound of the examples by which the directions of `0 2 0 2` clash.
func turned() api.Outline {
	o := second()
	o.Turns = append(o.Turns, bound(0, 1, -101, 11))
	return o
}

// dice are numbers that are the same in every run.
type dice uint64

func (d *dice) below(n int) int {
	*d = *d*6364136223846793005 + 1442695040888963407
	return int(uint64(*d)>>33) % n
}

func (d *dice) one(list ...int) int { return list[d.below(len(list))] }

// anyOutline is around true lengths and directions, a few of each, so that many pairings meet and many do not; now and then it contradicts itself.
func (d *dice) anyOutline() api.Outline {
	o := api.Outline{Corners: 3 + d.below(3)}
	ways, turns := []int{0}, []int{0}
	for range o.Corners {
		ways = append(ways, ways[len(ways)-1]+d.one(1, 2, 2, 3))
		turns = append(turns, turns[len(turns)-1]+30*d.one(-1, 0, 0, 1))
	}
	o.Ways = d.bounds(ways, 1)
	o.Turns = d.bounds(turns[:o.Corners], 30)
	return o
}

// bounds are some bounds around numbers, nearly all of which the numbers keep, of neighbours more often than of others.
func (d *dice) bounds(x []int, step int) []api.Bound {
	var l []api.Bound
	for i := range len(x) - 1 {
		by := d.below(8)
		if d.below(4) > 0 {
			l = append(l, bound(i, i+1, x[i+1]-x[i]+step*d.below(3), by))
		}
		if d.below(4) > 0 {
			l = append(l, bound(i+1, i, x[i]-x[i+1]+step*d.below(3), by))
		}
	}
	for range d.below(4) {
		l = append(l, d.anyBound(x, step))
	}
	return l
}

func (d *dice) anyBound(x []int, step int) api.Bound {
	from := d.below(len(x))
	to := (from + 1 + d.below(len(x)-1)) % len(x)
	return bound(from, to, x[to]-x[from]+step*d.one(-1, 0, 0, 1, 1, 2, 2, 3), d.below(8))
}

// looseBound is any bound of the ways or of the turns of an outline.
func (d *dice) looseBound(o api.Outline, turns bool) api.Bound {
	if turns {
		return d.anyBound(make([]int, o.Corners), 30)
	}
	x := make([]int, o.Corners+1)
	for i := range x {
		x[i] = i * 2
	}
	return d.anyBound(x, 1)
}

// eachTwo calls f with the outlines of the examples, and with many by dice.
func eachTwo(n int, f func(a, b api.Outline)) {
	f(first(), second())
	f(first(), turned())
	f(api.Outline{Corners: 3}, api.Outline{Corners: 4})
	d := dice(3)
	for range n {
		f(d.anyOutline(), d.anyOutline())
	}
}

// pairings are all of two outlines, by ascending A.From, A.To and B.From.
func pairings(a, b api.Outline) []api.Pairing {
	var l []api.Pairing
	for i := 0; i < a.Corners; i++ {
		for j := i + 1; j <= a.Corners; j++ {
			for m := 0; m+j-i <= b.Corners; m++ {
				l = append(l, pairing(i, j, m, m+j-i))
			}
		}
	}
	return l
}

// eachPairing calls f with all pairings of many outlines.
func eachPairing(n int, f func(a, b api.Outline, p api.Pairing)) {
	eachTwo(n, func(a, b api.Outline) {
		for _, p := range pairings(a, b) {
			f(a, b, p)
		}
	})
}

// tied is what the differences of two outlines can be that lie along each other: all points of both have numbers of their own, those of the corners of b with the other sign, and those that are one are tied.
func tied(a, b api.Outline, p api.Pairing, turns bool) ([][]int, bool) {
	n, m, k := a.Corners+1, b.Corners+1, p.A.To-p.A.From
	l, behind, last := slices.Clone(a.Ways), b.Ways, p.B.To
	if turns {
		n, m, k = n-1, m-1, k-1
		l, behind, last = slices.Clone(a.Turns), b.Turns, p.B.To-1
	}
	for _, x := range behind {
		if turns {
			l = append(l, bound(n+x.From, n+x.To, x.Most, x.By))
		} else {
			l = append(l, bound(n+x.To, n+x.From, x.Most, x.By))
		}
	}
	for i := 0; i <= k; i++ {
		l = append(l, bound(p.A.From+i, n+last-i, 0, 0), bound(n+last-i, p.A.From+i, 0, 0))
	}
	return oracle.Differences(n+m, l)
}

// meet says whether the stretches of a pairing meet.
func meet(a, b api.Outline, p api.Pairing) bool {
	_, ways := tied(a, b, p, false)
	_, turns := tied(a, b, p, true)
	return ways && turns
}

// joint is a joint system, with the points of b in a list.
func joint(a, b api.Outline, p api.Pairing, turns bool) api.System {
	n, m := a.Corners+1, b.Corners+1
	s := api.System{Bounds: slices.Clone(a.Ways)}
	at := map[int]int{}
	for i := 0; i <= p.A.To-p.A.From; i++ {
		at[p.B.To-i] = p.A.From + i
	}
	if turns {
		n, m = n-1, m-1
		s.Bounds = slices.Clone(a.Turns)
		at = map[int]int{}
		for i := 0; i < p.A.To-p.A.From; i++ {
			at[p.B.To-1-i] = p.A.From + i
		}
	}
	s.Points = n
	for i := range m {
		if _, is := at[i]; !is {
			at[i] = s.Points
			s.Points++
		}
	}
	if turns {
		for _, x := range b.Turns {
			s.Bounds = append(s.Bounds, bound(at[x.From], at[x.To], x.Most, x.By))
		}
		return s
	}
	for _, x := range b.Ways {
		s.Bounds = append(s.Bounds, bound(at[x.To], at[x.From], x.Most, x.By))
	}
	return s
}

// fewest is the number of bounds of the least circle that contradicts itself, 0 if there is none: walks of all points become one bound longer in each round.
func fewest(s api.System) int {
	walks := make([][]int, s.Points)
	for p := range walks {
		walks[p] = slices.Repeat([]int{oracle.Far}, s.Points)
		walks[p][p] = 0
	}
	for n := 1; n <= s.Points; n++ {
		for p := range walks {
			next := slices.Repeat([]int{oracle.Far}, s.Points)
			for _, b := range s.Bounds {
				if walks[p][b.From] < oracle.Far {
					next[b.To] = min(next[b.To], walks[p][b.From]+b.Most)
				}
			}
			walks[p] = next
		}
		for p := range walks {
			if walks[p][p] < 0 {
				return n
			}
		}
	}
	return 0
}

// isCircle says whether bounds lead round, from no point twice, with a sum below 0.
func isCircle(s api.System, circle []int) bool {
	sum := 0
	left := map[int]bool{}
	for k, i := range circle {
		if i < 0 || i >= len(s.Bounds) {
			return false
		}
		next := circle[(k+1)%len(circle)]
		if next < 0 || next >= len(s.Bounds) || s.Bounds[next].From != s.Bounds[i].To || left[s.Bounds[i].From] {
			return false
		}
		left[s.Bounds[i].From] = true
		sum += s.Bounds[i].Most
	}
	return sum < 0
}

func keeps(bounds []api.Bound, x []int) bool {
	for _, b := range bounds {
		if x[b.To]-x[b.From] > b.Most {
			return false
		}
	}
	return true
}

// isPlacement is what the chapter calls a placement.
func isPlacement(a, b api.Outline, p api.Pairing, x api.Placement) bool {
	if len(x.A) != a.Corners+1 || len(x.B) != b.Corners+1 || len(x.DirA) != a.Corners || len(x.DirB) != b.Corners {
		return false
	}
	for _, l := range [][]int{x.A, x.B, x.DirA, x.DirB} {
		if slices.Min(l) < -100000000 || slices.Max(l) > 100000000 {
			return false
		}
	}
	if !keeps(a.Ways, x.A) || !keeps(b.Ways, x.B) || !keeps(a.Turns, x.DirA) || !keeps(b.Turns, x.DirB) {
		return false
	}
	for m := 0; m <= p.A.To-p.A.From; m++ {
		if x.A[p.A.From+m]-x.A[p.A.From] != x.B[p.B.To]-x.B[p.B.To-m] {
			return false
		}
	}
	for m := 0; m < p.A.To-p.A.From; m++ {
		if x.DirA[p.A.From+m]-x.DirA[p.A.From] != x.DirB[p.B.To-1-m]-x.DirB[p.B.To-1] {
			return false
		}
	}
	return true
}

func wantErr(t *testing.T, what string, got, want api.Errno) {
	t.Helper()
	if got != want {
		t.Errorf("%s: error %d, want %d", what, got, want)
	}
}

func wantList[T comparable](t *testing.T, what string, got []T, e api.Errno, want ...T) {
	t.Helper()
	if e != api.OK || !slices.Equal(got, want) {
		t.Errorf("%s: %v, error %d, want %v", what, got, e, want)
	}
}

func wantBool(t *testing.T, what string, got bool, e api.Errno, want bool) {
	t.Helper()
	if e != api.OK || got != want {
		t.Errorf("%s: %v, error %d, want %v", what, got, e, want)
	}
}

// name is the string of a pairing.
func name(p api.Pairing) string {
	s, _ := edge.Write(p)
	return s
}
