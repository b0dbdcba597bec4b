package sherd

import (
	"slices"

	"conjoin/api"
	"conjoin/gauge"
)

// Outline returns the outline of a sherd as known on a day.
func Outline(l []api.Item, known, id int) (api.Outline, api.Errno) {
	p, e := pieceOf(l, known, id)
	if e != api.OK {
		return api.Outline{}, e
	}
	return p.outline(), api.OK
}

// Ways returns the bounds of the corners of an outline as a system.
func Ways(o api.Outline) api.System { return systemOf(o.Corners, o.Corners+1, o.Ways) }

// Turns returns the bounds of the sides of an outline as a system.
func Turns(o api.Outline) api.System { return systemOf(o.Corners, o.Corners, o.Turns) }

func systemOf(corners, points int, bounds []api.Bound) api.System {
	if !within(corners, api.MinCorners, api.MaxCorners) {
		return api.System{}
	}
	return api.System{Points: points, Bounds: slices.Clone(bounds)}
}

// Way returns the least and the greatest way between two corners, if there is a greatest one.
func Way(l []api.Item, known, id, from, to int) (low, high int, ok bool, e api.Errno) {
	p, e := pieceWithWay(l, known, id, from, to)
	if e != api.OK {
		return 0, 0, false, e
	}
	ways := p.of(api.ItemWay)
	high, ok, e = p.wayEnd(ways, from, to, true)
	if e != api.OK {
		return 0, 0, false, api.ErrDoubt
	}
	if !ok {
		return 0, 0, false, api.OK
	}
	low, _, _ = p.wayEnd(ways, from, to, false)
	return low, high, true, api.OK
}

// pieceWithWay is pieceOf for functions that are asked about two corners.
func pieceWithWay(l []api.Item, known, id, from, to int) (piece, api.Errno) {
	p, e := pieceOf(l, known, id)
	if e != api.OK {
		return piece{}, e
	}
	if !areEnds(from, to, p.sherd.Corners) {
		return piece{}, api.ErrArg
	}
	return p, api.OK
}

// Turn returns the least and the greatest turn between two sides.
func Turn(l []api.Item, known, id, from, to int) (low, high int, e api.Errno) {
	p, e := pieceOf(l, known, id)
	if e != api.OK {
		return 0, 0, e
	}
	if !areEnds(from, to, p.sherd.Corners-1) {
		return 0, 0, api.ErrArg
	}
	s := Turns(p.outline())
	high, _, e = gauge.Greatest(s, from, to)
	if e != api.OK {
		return 0, 0, api.ErrDoubt
	}
	low, _, _ = gauge.Least(s, from, to)
	return low, high, api.OK
}

// Colour returns the colours that a sherd can have.
func Colour(l []api.Item, known, id int) (api.Span, api.Errno) {
	p, e := pieceOf(l, known, id)
	if e != api.OK {
		return api.Span{}, e
	}
	return p.colour()
}

// Curves returns the curves that a sherd can have.
func Curves(l []api.Item, known, id int) (string, api.Errno) {
	p, e := pieceOf(l, known, id)
	if e != api.OK {
		return "", e
	}
	return p.curves()
}
