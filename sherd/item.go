package sherd

import (
	"strings"

	"conjoin/api"
)

// allCurves are the classes by nature.
const allCurves = "abcdefghijklmnopqrstuvwxyz"

// CheckItem returns ErrArg for an item that is not well-formed.
func CheckItem(x api.Item) api.Errno {
	if !isId(x.Id) || !within(x.Known, 0, api.MaxDay) || x != bare(x) || !isFilled(x) {
		return api.ErrArg
	}
	return api.OK
}

// bare returns an item without the fields that its kind does not have.
func bare(x api.Item) api.Item {
	y := api.Item{Id: x.Id, Known: x.Known, Kind: x.Kind}
	switch x.Kind {
	case api.ItemSherd:
		y.Ware, y.Pit, y.Layer, y.Corners, y.Foot = x.Ware, x.Pit, x.Layer, x.Corners, x.Foot
	case api.ItemWay, api.ItemTurn:
		y.Sherd, y.From, y.To, y.Low, y.High = x.Sherd, x.From, x.To, x.Low, x.High
	case api.ItemColour:
		y.Sherd, y.Low, y.High = x.Sherd, x.Low, x.High
	case api.ItemCurve:
		y.Sherd, y.Set = x.Sherd, x.Set
	case api.ItemLimit:
		y.Ware, y.Limit = x.Ware, x.Limit
	case api.ItemVoid:
		y.Of = x.Of
	}
	return y
}

// isFilled reports whether the fields that the kind of an item has are as said; no kind but those that there are has any.
func isFilled(x api.Item) bool {
	switch x.Kind {
	case api.ItemSherd:
		return isName(x.Ware) && within(x.Pit, 1, api.MaxPits) && within(x.Layer, 1, api.MaxLayers) && within(x.Corners, api.MinCorners, api.MaxCorners)
	case api.ItemWay:
		return isId(x.Sherd) && isSpan(x, 1, api.MaxWay) && areEnds(x.From, x.To, lastEnd(x.Kind, api.MaxCorners))
	case api.ItemTurn:
		return isId(x.Sherd) && isSpan(x, -api.MaxTurn, api.MaxTurn) && areEnds(x.From, x.To, lastEnd(x.Kind, api.MaxCorners))
	case api.ItemColour:
		return isId(x.Sherd) && isSpan(x, 0, api.MaxColour)
	case api.ItemCurve:
		return isId(x.Sherd) && isSet(x.Set)
	case api.ItemLimit:
		return isName(x.Ware) && within(x.Limit, 1, api.MaxLimit)
	case api.ItemVoid:
		return isId(x.Of)
	}
	return false
}

// lastEnd returns the last corner that a way leads to, or the last side that a turn does; other items have no To, so that it does not matter for them.
func lastEnd(kind uint8, corners int) int {
	if kind == api.ItemTurn {
		return corners - 1
	}
	return corners
}

func areEnds(from, to, last int) bool { return 0 <= from && from < to && to <= last }

func isSpan(x api.Item, low, high int) bool { return low <= x.Low && x.Low <= x.High && x.High <= high }

func isId(n int) bool { return within(n, 1, api.MaxId) }

func within(n, low, high int) bool { return low <= n && n <= high }

func isName(s string) bool {
	if len(s) < 1 || len(s) > api.MaxName || !isLetter(s[0]) {
		return false
	}
	for i := range len(s) {
		if c := s[i]; !isLetter(c) && c != '-' && (c < '0' || c > '9') {
			return false
		}
	}
	return true
}

func isLetter(c byte) bool { return 'a' <= c && c <= 'z' }

// isSet reports whether a string is letters, strictly ascending: each one is searched for behind the one before.
func isSet(s string) bool {
	rest := allCurves
	for i := range len(s) {
		at := strings.IndexByte(rest, s[i])
		if at < 0 {
			return false
		}
		rest = rest[at+1:]
	}
	return s != ""
}
