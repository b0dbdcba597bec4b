package edge

import (
	"conjoin/api"
	"conjoin/gauge"
)

// Fit returns the joint system of the directions, or that of the ways.
func Fit(a, b api.Outline, p api.Pairing, turns bool) (api.System, api.Errno) {
	if e := CheckPairing(a, b, p); e != api.OK {
		return api.System{}, e
	}
	s := pair{outlines{a, b}, p}.joint(turns)
	if e := gauge.CheckSystem(s); e != api.OK {
		return api.System{}, e
	}
	return s, api.OK
}

// Meets reports whether two stretches can lie along each other.
func Meets(a, b api.Outline, p api.Pairing) (bool, api.Errno) {
	q, e := pairOf(a, b, p)
	return e == api.OK && q.meets(), e
}

// Place returns numbers that show that two stretches meet, if they do.
func Place(a, b api.Outline, p api.Pairing) (api.Placement, bool, api.Errno) {
	q, e := pairOf(a, b, p)
	if e != api.OK {
		return api.Placement{}, false, e
	}
	x, ok := q.solutions()
	if !ok {
		return api.Placement{}, false, api.OK
	}
	return q.placement(x), true, api.OK
}

// CheckPlace reports whether numbers show that two stretches meet.
func CheckPlace(a, b api.Outline, p api.Pairing, x api.Placement) (bool, api.Errno) {
	q, e := pairOf(a, b, p)
	return e == api.OK && q.isPlacement(x), e
}

// Clash returns bounds that show that two stretches do not meet, as few as there are.
func Clash(a, b api.Outline, p api.Pairing) (api.Flaw, bool, api.Errno) {
	q, e := pairOf(a, b, p)
	if e != api.OK {
		return api.Flaw{}, false, e
	}
	f, is := flawIn(q.ways(), q.turns())
	return f, is, api.OK
}

// CheckClash reports whether bounds show that two stretches do not meet.
func CheckClash(a, b api.Outline, p api.Pairing, f api.Flaw) (bool, api.Errno) {
	q, e := pairOf(a, b, p)
	if e != api.OK {
		return false, e
	}
	return gauge.CheckCircle(q.joint(f.Turns), f.Circle)
}

// Rests returns the records that a clash comes from.
func Rests(a, b api.Outline, p api.Pairing, f api.Flaw) ([]int, api.Errno) {
	q, e := pairOf(a, b, p)
	if e != api.OK {
		return nil, e
	}
	s := q.joint(f.Turns)
	if is, _ := gauge.CheckCircle(s, f.Circle); !is {
		return nil, api.ErrArg
	}
	return gauge.Ids(s, f.Circle)
}

// Shared returns how long at least, and at most, what two stretches share is.
func Shared(a, b api.Outline, p api.Pairing) (low, high int, e api.Errno) {
	q, e := pairOf(a, b, p)
	if e != api.OK {
		return 0, 0, e
	}
	if !q.meets() {
		return 0, 0, api.ErrFlaw
	}
	low, high = -api.MaxFar, api.MaxFar
	if n, ok, _ := gauge.Least(q.ways(), p.A.From, p.A.To); ok {
		low = n
	}
	if n, ok, _ := gauge.Greatest(q.ways(), p.A.From, p.A.To); ok {
		high = n
	}
	return low, high, api.OK
}
