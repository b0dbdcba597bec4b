package gauge

import "conjoin/api"

// Solve returns the greatest of the solutions in which no number is above 0.
func Solve(s api.System) ([]int, bool, api.Errno) {
	g, e := graphOf(s)
	if e != api.OK {
		return nil, false, e
	}
	x, ok := g.solution()
	if !ok {
		return nil, false, api.OK
	}
	return g.list(x), true, api.OK
}

// Circle returns a circle that contradicts itself, with the fewest bounds.
func Circle(s api.System) ([]int, bool, api.Errno) {
	g, e := graphOf(s)
	if e != api.OK {
		return nil, false, e
	}
	circle, ok := g.circle()
	return circle, ok, api.OK
}

// CheckCircle reports whether a list is a circle that contradicts itself.
func CheckCircle(s api.System, circle []int) (bool, api.Errno) {
	g, e := graphOf(s)
	if e != api.OK {
		return false, e
	}
	sum, ok := g.chain(circle)
	if !ok || len(circle) < 2 {
		return false, api.OK
	}
	closed := s.Bounds[circle[len(circle)-1]].To == s.Bounds[circle[0]].From
	return closed && sum < 0, api.OK
}

// Greatest returns how much greater the number of b can be than that of a.
func Greatest(s api.System, a, b int) (int, bool, api.Errno) { return endOf(s, a, b, true) }

// Least returns how much greater the number of b is at least than that of a.
func Least(s api.System, a, b int) (int, bool, api.Errno) { return endOf(s, a, b, false) }

func endOf(s api.System, a, b int, upper bool) (int, bool, api.Errno) {
	g, e := solvable(s, a, b)
	if e != api.OK {
		return 0, false, e
	}
	find := g.end(upper)
	n, ok := find(a, b)
	return n, ok, api.OK
}

// Path returns a path that shows the greatest difference.
func Path(s api.System, a, b int) ([]int, bool, api.Errno) {
	g, e := solvable(s, a, b)
	if e != api.OK {
		return nil, false, e
	}
	n, ok := g.greatest(a, b)
	if !ok {
		return nil, false, api.OK
	}
	return g.walk(a, b, n), true, api.OK
}

// CheckPath reports whether a list is a path with a sum of at most most.
func CheckPath(s api.System, a, b, most int, path []int) (bool, api.Errno) {
	g, e := graphOf(s, a, b)
	if e != api.OK {
		return false, e
	}
	if a == b || len(path) == 0 {
		return a == b && len(path) == 0 && most >= 0, api.OK
	}
	sum, ok := g.chain(path)
	if !ok || sum > most {
		return false, api.OK
	}
	// No From comes twice, so that no To comes twice either if the path leaves a and never leaves b.
	for _, i := range path {
		if s.Bounds[i].From == b {
			return false, api.OK
		}
	}
	return s.Bounds[path[0]].From == a && s.Bounds[path[len(path)-1]].To == b, api.OK
}

// Attain returns the greatest of the solutions in which no number is above 0 and a difference is n.
func Attain(s api.System, a, b, n int) ([]int, bool, api.Errno) {
	g, e := graphOf(s, a, b)
	if e != api.OK {
		return nil, false, e
	}
	if !within(n, -api.MaxNear, api.MaxNear) {
		return nil, false, api.ErrArg
	}
	if _, ok := g.solution(); !ok {
		return nil, false, api.ErrCircle
	}
	// A point that is tied to itself contradicts itself unless n is 0, as it should.
	x, ok := g.tied(a, b, n).solution()
	if !ok {
		return nil, false, api.OK
	}
	return g.list(x), true, api.OK
}

// Fixed returns the difference that all solutions have, if they have the same one.
func Fixed(s api.System, a, b int) (int, bool, api.Errno) {
	g, e := solvable(s, a, b)
	if e != api.OK {
		return 0, false, e
	}
	n := g.from(a)[b]
	if !isFixed(n, g.from(b)[a]) {
		return 0, false, api.OK
	}
	return n, true, api.OK
}

// Rigid returns for each point the first one whose difference to it is fixed.
func Rigid(s api.System) ([]int, api.Errno) {
	g, e := solvable(s)
	if e != api.OK {
		return nil, e
	}
	var rows [api.MaxPoints]sums
	for p := range g.Points {
		rows[p] = g.from(p)
	}
	first := make([]int, g.Points)
	for p := range first {
		for !isFixed(rows[first[p]][p], rows[p][first[p]]) {
			first[p]++
		}
	}
	return first, api.OK
}

// Rests returns the Ids on which an end of a difference rests.
func Rests(s api.System, a, b int, upper bool) ([]int, api.Errno) {
	g, e := solvable(s, a, b)
	if e != api.OK {
		return nil, e
	}
	find := g.end(upper)
	n, ok := find(a, b)
	if !ok {
		return nil, api.OK
	}
	return g.needed(func(less graph) bool {
		find := less.end(upper)
		m, ok := find(a, b)
		return ok && m == n
	}), api.OK
}

// Doubt returns Ids that contradict each other, if there is no solution.
func Doubt(s api.System) ([]int, bool, api.Errno) {
	g, e := graphOf(s)
	if e != api.OK {
		return nil, false, e
	}
	contradicts := func(less graph) bool {
		_, ok := less.solution()
		return !ok
	}
	if !contradicts(g) {
		return nil, false, api.OK
	}
	return g.needed(contradicts), true, api.OK
}

// Changed returns the points whose differences against a have another end with a bound more.
func Changed(s api.System, x api.Bound, a int) ([]int, api.Errno) {
	t, e := With(s, x)
	if e != api.OK {
		return nil, e
	}
	h, e := solvable(t, a)
	if e != api.OK {
		return nil, e
	}
	// A solution of h is one of s, so that s need not be asked.
	before, after := graph(s).ends(a), h.ends(a)
	var changed []int
	if before == after {
		return changed, api.OK
	}
	for p := range s.Points {
		if before[0][p] != after[0][p] || before[1][p] != after[1][p] {
			changed = append(changed, p)
		}
	}
	return changed, api.OK
}
