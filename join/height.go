package join

import (
	"slices"
	"strings"

	"conjoin/api"
	"conjoin/gauge"
	"conjoin/sherd"
)

// letters are the classes of curves.
const letters = "abcdefghijklmnopqrstuvwxyz"

// isLarge reports whether a group has too many sherds to be looked at.
func (g group) isLarge() bool { return len(g.members) > api.MaxSherds }

// system returns what the heights of a group keep to, with the indices of its sherds as points.
func (g group) system() api.System {
	point := map[int]int{}
	for i, s := range g.members {
		point[s.Id] = i
	}
	var bounds []api.Bound
	for _, x := range g.joined {
		down := 0
		if x.Kind == api.ClaimBelow {
			down = 1
		}
		a, b := point[x.A], point[x.B]
		bounds = append(bounds, api.Bound{From: a, To: b, Most: down, By: x.Id}, api.Bound{From: b, To: a, Most: -down, By: x.Id})
	}
	if foot := slices.IndexFunc(g.members, hasFoot); foot >= 0 {
		for i := range g.members {
			if i != foot {
				bounds = append(bounds, api.Bound{From: foot, To: i, By: g.members[foot].Id})
			}
		}
	}
	return api.System{Points: len(g.members), Bounds: bounds}
}

func hasFoot(s api.Sherd) bool { return s.Foot }

// heights returns the heights of a group that is not large, or ErrHeight. There is one solution alone, since joins lead all sherds together.
func (g group) heights() ([]int, api.Errno) {
	list, ok, _ := gauge.Solve(g.system())
	if !ok {
		return nil, api.ErrHeight
	}
	least := slices.Min(list)
	for i := range list {
		list[i] -= least
	}
	return list, api.OK
}

// rings returns the rings of a group that is not large, or ErrHeight. Joins lead at most one ring on, so that no height between is missing.
func (g group) rings() ([]api.Ring, api.Errno) {
	heights, e := g.heights()
	if e != api.OK {
		return nil, e
	}
	rings := make([]api.Ring, slices.Max(heights)+1)
	for at := range rings {
		rings[at] = api.Ring{At: at, Set: letters}
	}
	for i, set := range asked(g.members, g.curves) {
		at := heights[i]
		rings[at].Set = inBoth(rings[at].Set, set)
	}
	return rings, api.OK
}

// curves returns the letters that a sherd can have; none if its measurements contradict each other.
func (v view) curves(id int) string {
	set, _ := sherd.Curves(v.Items, v.known, id)
	return set
}

// inBoth returns the letters of a set that another one has too.
func inBoth(s, t string) string {
	return strings.Map(func(c rune) rune {
		if strings.ContainsRune(t, c) {
			return c
		}
		return -1
	}, s)
}

// smallGroupOf is groupOf for functions that do not look at large groups.
func smallGroupOf(f api.Files, known, id int) (group, api.Errno) {
	g, e := groupOf(f, known, id)
	if e != api.OK {
		return group{}, e
	}
	if g.isLarge() {
		return group{}, api.ErrWrong
	}
	return g, api.OK
}

// Heights returns the heights of the sherds of a group.
func Heights(f api.Files, known, sherd int) ([]int, api.Errno) {
	g, e := smallGroupOf(f, known, sherd)
	if e != api.OK {
		return nil, e
	}
	return g.heights()
}

// HeightDoubt returns joins, and perhaps a sherd with a foot, by which the heights of a group contradict each other.
func HeightDoubt(f api.Files, known, sherd int) ([]int, bool, api.Errno) {
	g, e := smallGroupOf(f, known, sherd)
	if e != api.OK {
		return nil, false, e
	}
	return gauge.Doubt(g.system())
}

// Rings returns the rings of a group.
func Rings(f api.Files, known, sherd int) ([]api.Ring, api.Errno) {
	g, e := smallGroupOf(f, known, sherd)
	if e != api.OK {
		return nil, e
	}
	return g.rings()
}
