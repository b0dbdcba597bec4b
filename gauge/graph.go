package gauge

import (
	"iter"
	"maps"
	"math"
	"slices"

	"conjoin/api"
)

// graph is a system that was checked. It may have more bounds, and greater ones, than CheckSystem accepts, since Attain ties two points of a full system.
type graph api.System

// sums are the least sums of paths, one for each point that they lead to.
type sums [api.MaxPoints]int

// unbounded is the sum where there is no path. It is greater than every other one, so that the least of some sums is right without asking.
const unbounded = math.MaxInt

// noPoint is what the panic for a point that there is not carries.
type noPoint int

// graphOf returns a system as a graph, or the error that it, or a point, has.
func graphOf(s api.System, points ...int) (g graph, e api.Errno) {
	if e := CheckSystem(s); e != api.OK {
		return graph{}, e
	}
	defer func() {
		if recover() != nil {
			g, e = graph{}, api.ErrArg
		}
	}()
	graph(s).need(points...)
	return graph(s), api.OK
}

// solvable is graphOf for functions that are of no use without a solution.
func solvable(s api.System, points ...int) (graph, api.Errno) {
	g, e := graphOf(s, points...)
	if e != api.OK {
		return graph{}, e
	}
	if _, ok := g.solution(); !ok {
		return graph{}, api.ErrCircle
	}
	return g, api.OK
}

// need panics at the first point that there is not.
func (g graph) need(points ...int) {
	for _, p := range points {
		if !within(p, 0, g.Points-1) {
			panic(noPoint(p))
		}
	}
}

func (g graph) tied(a, b, n int) graph {
	there := api.Bound{From: a, To: b, Most: n}
	back := api.Bound{From: b, To: a, Most: -n}
	return graph{Points: g.Points, Bounds: joined(g.Bounds, there, back)}
}

func (g graph) without(ids ...int) graph {
	out := idSet(ids...)
	return graph{Points: g.Points, Bounds: picked(g.Bounds, func(b api.Bound) bool { return !out[b.By] })}
}

func (g graph) reversed() graph {
	bounds := joined(g.Bounds)
	for i, b := range bounds {
		bounds[i].From, bounds[i].To = b.To, b.From
	}
	return graph{Points: g.Points, Bounds: bounds}
}

// onward yields the bounds that lead on from where sums lead to, each with its index and the sum behind it.
func (g graph) onward(x sums) iter.Seq2[int, int] {
	return func(yield func(int, int) bool) {
		for i, b := range g.Bounds {
			if x[b.From] != unbounded && !yield(i, x[b.From]+b.Most) {
				return
			}
		}
	}
}

// longer returns the sums of paths that may have one bound more.
func (g graph) longer(x sums) sums {
	next := x
	for i, sum := range g.onward(x) {
		to := g.Bounds[i].To
		next[to] = min(next[to], sum)
	}
	return next
}

// settled returns the sums of paths of any length, and false if there are none. Paths have fewer bounds than there are points: sums that are still not the same after so many rounds have been around a circle that contradicts itself.
func (g graph) settled(x sums) (sums, bool) {
	for range g.Points {
		next := g.longer(x)
		if next == x {
			return x, true
		}
		x = next
	}
	return sums{}, false
}

// solution returns the greatest numbers of which none is above 0: the least sums of paths that may begin anywhere.
func (g graph) solution() (sums, bool) { return g.settled(sums{}) }

// list returns the numbers of the points that there are.
func (g graph) list(x sums) []int { return joined(x[:g.Points]) }

// start returns the sums of paths without bounds from a point.
func start(a int) sums {
	var x sums
	for p := range x {
		x[p] = unbounded
	}
	x[a] = 0
	return x
}

// from returns the sums of paths from a point, in a graph that has a solution.
func (g graph) from(a int) sums {
	x, _ := g.settled(start(a))
	return x
}

// ends returns what bounds the differences against a point above, and below (with the other sign).
func (g graph) ends(a int) [2]sums { return [2]sums{g.from(a), g.reversed().from(a)} }

func (g graph) greatest(a, b int) (int, bool) {
	n := g.from(a)[b]
	if n == unbounded {
		return 0, false
	}
	return n, true
}

func (g graph) least(a, b int) (int, bool) {
	n, ok := g.greatest(b, a)
	return -n, ok
}

// end returns the method that finds one end of a difference.
func (g graph) end(upper bool) func(a, b int) (int, bool) {
	if upper {
		return g.greatest
	}
	return g.least
}

// isFixed reports whether the sums there and back leave one difference alone; where there is no path it is never so.
func isFixed(there, back int) bool { return there == -back }

// walk returns, of the walks from a to b whose sum is at most most, one with the fewest bounds. There has to be one.
func (g graph) walk(a, b, most int) []int {
	last := start(a)
	rounds := []sums{last}
	for last[b] > most {
		last = g.longer(last)
		rounds = append(rounds, last)
	}
	list := make([]int, len(rounds)-1)
	for k := len(list) - 1; k >= 0; k-- {
		list[k] = g.step(rounds[k], b, rounds[k+1][b])
		b = g.Bounds[list[k]].From
	}
	return list
}

// step returns the bound that leads on from sums to a point with a sum. There has to be one.
func (g graph) step(x sums, to, want int) int {
	for i, sum := range g.onward(x) {
		if g.Bounds[i].To == to && sum == want {
			return i
		}
	}
	return 0
}

// circle returns a circle that contradicts itself, with the fewest bounds, or none. Walks from all points become longer together, so that the first one that comes back below 0 is no longer than any other one, and passes no point twice: a part of it would have come back earlier.
func (g graph) circle() ([]int, bool) {
	var walks [api.MaxPoints]sums
	for p := range g.Points {
		walks[p] = start(p)
	}
	found := g.Points
search:
	for range g.Points {
		for p := range g.Points {
			walks[p] = g.longer(walks[p])
			if walks[p][p] < 0 {
				found = p
				break search
			}
		}
	}
	if found == g.Points {
		return nil, false
	}
	return g.walk(found, found, -1), true
}

// chain returns the sum of a list of bounds, and whether each one begins where the one before ends and no point is the From of two.
func (g graph) chain(list []int) (int, bool) {
	var left [api.MaxPoints]bool
	sum := 0
	for k, i := range list {
		if !within(i, 0, len(g.Bounds)-1) {
			return 0, false
		}
		b := g.Bounds[i]
		if left[b.From] || k > 0 && g.Bounds[list[k-1]].To != b.From {
			return 0, false
		}
		left[b.From] = true
		sum += b.Most
	}
	return sum, true
}

// needed goes through the Ids from the last one to the first one, leaves out each one without which something still holds, and returns the others.
func (g graph) needed(holds func(graph) bool) []int {
	var kept []int
	for _, id := range slices.Backward(idsOf(g.Bounds)) {
		if less := g.without(id); holds(less) {
			g = less
		} else {
			kept = append(kept, id)
		}
	}
	slices.Reverse(kept)
	return kept
}

// idsOf returns the records that bounds come from, each once, ascending.
func idsOf(bounds []api.Bound) []int {
	var list []int
	for _, b := range bounds {
		list = append(list, b.By)
	}
	set := idSet(list...)
	delete(set, 0)
	return slices.Sorted(maps.Keys(set))
}

func idSet(ids ...int) map[int]bool {
	set := map[int]bool{}
	for _, id := range ids {
		set[id] = true
	}
	return set
}

// joined copies a list, with more behind it: what callers hand over is never written to, not even behind its end.
func joined[T any](list []T, more ...T) []T {
	both := make([]T, 0, len(list)+len(more))
	both = append(both, list...)
	return append(both, more...)
}

// picked copies what is good of a list.
func picked[T any](list []T, good func(T) bool) []T {
	var some []T
	for _, x := range list {
		if good(x) {
			some = append(some, x)
		}
	}
	return some
}
