// Package gauge is layer 1: systems of bounds on differences of numbers, as shared/doc/01-gauge.md specifies them.
package gauge

import "conjoin/api"

// CheckSystem returns what is wrong with a system: it has too much, or is not as said.
func CheckSystem(s api.System) api.Errno {
	if s.Points > api.MaxPoints || len(s.Bounds) > api.MaxBounds {
		return api.ErrLimit
	}
	if s.Points < 1 {
		return api.ErrArg
	}
	for _, b := range s.Bounds {
		if !isBound(b, s.Points) {
			return api.ErrArg
		}
	}
	return api.OK
}

func isBound(b api.Bound, points int) bool {
	return within(b.From, 0, points-1) && within(b.To, 0, points-1) && b.From != b.To && isMost(b.Most) && isBy(b.By)
}

func isMost(n int) bool { return within(n, -api.MaxMost, api.MaxMost) }

func isBy(n int) bool { return within(n, 0, api.MaxId) }

func within(n, low, high int) bool { return low <= n && n <= high }

// Keeps reports whether a list is a solution.
func Keeps(s api.System, x []int) (bool, api.Errno) {
	_, broken, e := Breaks(s, x)
	return e == api.OK && !broken, e
}

// Breaks returns the first bound that a list does not keep, and whether there is one.
func Breaks(s api.System, x []int) (int, bool, api.Errno) {
	if e := CheckSystem(s); e != api.OK {
		return 0, false, e
	}
	if !areNumbers(x, s.Points) {
		return 0, false, api.ErrArg
	}
	for i, b := range s.Bounds {
		if x[b.To]-x[b.From] > b.Most {
			return i, true, api.OK
		}
	}
	return 0, false, api.OK
}

func areNumbers(x []int, points int) bool {
	if len(x) != points {
		return false
	}
	for _, n := range x {
		if !within(n, -api.MaxFar, api.MaxFar) {
			return false
		}
	}
	return true
}

// With returns the system with one bound more at the end.
func With(s api.System, x api.Bound) (api.System, api.Errno) {
	if e := CheckSystem(s); e != api.OK {
		return api.System{}, e
	}
	return made(s.Points, joined(s.Bounds, x))
}

// Without returns the system without the bounds that come from one record, or from none.
func Without(s api.System, by int) (api.System, api.Errno) {
	if e := CheckSystem(s); e != api.OK {
		return api.System{}, e
	}
	if !isBy(by) {
		return api.System{}, api.ErrArg
	}
	return api.System(graph(s).without(by)), api.OK
}

// Only returns the system with the bounds alone that come from some records, or from none.
func Only(s api.System, ids []int) (api.System, api.Errno) {
	if e := CheckSystem(s); e != api.OK {
		return api.System{}, e
	}
	wanted := idSet(ids...)
	wanted[0] = true
	return made(s.Points, picked(s.Bounds, func(b api.Bound) bool { return wanted[b.By] }))
}

// Ids returns the records that some bounds come from.
func Ids(s api.System, list []int) ([]int, api.Errno) {
	if e := CheckSystem(s); e != api.OK {
		return nil, e
	}
	var bounds []api.Bound
	for _, i := range list {
		if !within(i, 0, len(s.Bounds)-1) {
			return nil, api.ErrArg
		}
		bounds = append(bounds, s.Bounds[i])
	}
	return idsOf(bounds), api.OK
}

// Beside returns one system of two, in which nothing leads from the one to the other one.
func Beside(s, t api.System) (api.System, api.Errno) {
	if e := CheckSystem(s); e != api.OK {
		return api.System{}, e
	}
	if e := CheckSystem(t); e != api.OK {
		return api.System{}, e
	}
	bounds := joined(s.Bounds, t.Bounds...)
	for i := len(s.Bounds); i < len(bounds); i++ {
		bounds[i].From += s.Points
		bounds[i].To += s.Points
	}
	return made(s.Points+t.Points, bounds)
}

// Tie returns the system with a difference that is fixed by two bounds more.
func Tie(s api.System, a, b, n int) (api.System, api.Errno) {
	g, e := graphOf(s, a, b)
	if e != api.OK {
		return api.System{}, e
	}
	if a == b || !isMost(n) {
		return api.System{}, api.ErrArg
	}
	return made(s.Points, g.tied(a, b, n).Bounds)
}

// made returns a new system, or its error alone.
func made(points int, bounds []api.Bound) (api.System, api.Errno) {
	s := api.System{Points: points, Bounds: bounds}
	if e := CheckSystem(s); e != api.OK {
		return api.System{}, e
	}
	return s, api.OK
}
