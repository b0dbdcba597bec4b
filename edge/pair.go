package edge

import (
	"conjoin/api"
	"conjoin/gauge"
)

// outlines are two outlines that were checked, also that their joint systems do not become too large.
type outlines struct{ a, b api.Outline }

// pair is two outlines, and what both have of the same edge.
type pair struct {
	outlines
	api.Pairing
}

func outlinesOf(a, b api.Outline) (outlines, api.Errno) {
	if e := checkOutlines(a, b); e != api.OK {
		return outlines{}, e
	}
	if areLarge(a, b) {
		return outlines{}, api.ErrLimit
	}
	return outlines{a, b}, api.OK
}

func pairOf(a, b api.Outline, p api.Pairing) (pair, api.Errno) {
	if e := CheckPairing(a, b, p); e != api.OK {
		return pair{}, e
	}
	if areLarge(a, b) {
		return pair{}, api.ErrLimit
	}
	return pair{outlines{a, b}, p}, api.OK
}

// areLarge reports whether a joint system of two outlines has too many bounds. Every pairing of them has as many.
func areLarge(a, b api.Outline) bool {
	return len(a.Ways)+len(b.Ways) > api.MaxBounds || len(a.Turns)+len(b.Turns) > api.MaxBounds
}

// renumbered returns the function that says which point of a joint system a point of b is: those from low to high are points of a from at on, backwards, and the others stand behind the n points of a.
func renumbered(n, at, low, high int) func(int) int {
	return func(p int) int {
		switch {
		case p < low:
			return n + p
		case p > high:
			return n + p - (high - low + 1)
		}
		return at + high - p
	}
}

// corner renumbers the corners of b.
func (p pair) corner() func(int) int {
	return renumbered(p.a.Corners+1, p.A.From, p.B.From, p.B.To)
}

// side renumbers the sides of b.
func (p pair) side() func(int) int {
	return renumbered(p.a.Corners, p.A.From, p.B.From, p.B.To-1)
}

// ways returns the joint system of the ways. What is the way on along b is the way back in it.
func (p pair) ways() api.System {
	corner := p.corner()
	bounds := copied(p.a.Ways)
	for _, x := range p.b.Ways {
		bounds = append(bounds, api.Bound{From: corner(x.To), To: corner(x.From), Most: x.Most, By: x.By})
	}
	return api.System{Points: p.a.Corners + p.b.Corners + 1 - sides(p.A), Bounds: bounds}
}

// turns returns the joint system of the directions.
func (p pair) turns() api.System {
	side := p.side()
	bounds := copied(p.a.Turns)
	for _, x := range p.b.Turns {
		bounds = append(bounds, api.Bound{From: side(x.From), To: side(x.To), Most: x.Most, By: x.By})
	}
	return api.System{Points: p.a.Corners + p.b.Corners - sides(p.A), Bounds: bounds}
}

// makers make the joint systems, of the ways first.
func (p pair) makers() [2]func() api.System { return [2]func() api.System{p.ways, p.turns} }

// joint returns the joint system of the directions, or that of the ways.
func (p pair) joint(turns bool) api.System {
	if turns {
		return p.turns()
	}
	return p.ways()
}

// solutions returns a solution of each joint system, if both have one.
func (p pair) solutions() (x [2][]int, ok bool) {
	for i, system := range p.makers() {
		if x[i], ok, _ = gauge.Solve(system()); !ok {
			return [2][]int{}, false
		}
	}
	return x, true
}

func (p pair) meets() bool {
	_, ok := p.solutions()
	return ok
}

// placement returns the placement that solutions of the joint systems are.
func (p pair) placement(x [2][]int) api.Placement {
	corner, side := p.corner(), p.side()
	return api.Placement{
		A:    fromZero(p.a.Corners+1, func(c int) int { return x[0][c] }),
		B:    fromZero(p.b.Corners+1, func(c int) int { return -x[0][corner(c)] }),
		DirA: fromZero(p.a.Corners, func(s int) int { return x[1][s] }),
		DirB: fromZero(p.b.Corners, func(s int) int { return x[1][side(s)] }),
	}
}

// fromZero returns n numbers, shifted so that the first one is 0, as ways and turns are told.
func fromZero(n int, number func(int) int) []int {
	list := make([]int, n)
	for i := range list {
		list[i] = number(i) - number(0)
	}
	return list
}

func (p pair) isPlacement(x api.Placement) bool {
	if !areKept(ownSystem(p.a, false), x.A) || !areKept(ownSystem(p.b, false), x.B) {
		return false
	}
	if !areKept(ownSystem(p.a, true), x.DirA) || !areKept(ownSystem(p.b, true), x.DirB) {
		return false
	}
	corner, side := p.corner(), p.side()
	// The corner B.To and the side before it are those that all are measured from, so that only the others can be wrong.
	for i := p.B.From; i < p.B.To; i++ {
		if x.A[corner(i)]-x.A[p.A.From] != x.B[p.B.To]-x.B[i] || x.DirA[side(i)]-x.DirA[p.A.From] != x.DirB[i]-x.DirB[p.B.To-1] {
			return false
		}
	}
	return true
}

// areKept reports whether numbers that a placement may have are a solution.
func areKept(s api.System, x []int) bool {
	for _, n := range x {
		if n < -api.MaxNear || n > api.MaxNear {
			return false
		}
	}
	ok, _ := gauge.Keeps(s, x)
	return ok
}
