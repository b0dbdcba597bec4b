package edge

import (
	"cmp"
	"iter"
	"slices"

	"conjoin/api"
)

// pairings yields all pairings with so many sides, by ascending A.From, then B.From.
func (o outlines) pairings(sides int) iter.Seq[api.Pairing] {
	return func(yield func(api.Pairing) bool) {
		if sides < 1 {
			return
		}
		for i := range o.a.Corners - sides + 1 {
			for j := range o.b.Corners - sides + 1 {
				p := api.Pairing{A: api.Stretch{From: i, To: i + sides}, B: api.Stretch{From: j, To: j + sides}}
				if !yield(p) {
					return
				}
			}
		}
	}
}

// meeting yields those of them that meet.
func (o outlines) meeting(sides int) iter.Seq[api.Pairing] {
	return func(yield func(api.Pairing) bool) {
		for p := range o.pairings(sides) {
			if (pair{o, p}).meets() && !yield(p) {
				return
			}
		}
	}
}

// most is how many sides a pairing can have.
func (o outlines) most() int { return min(o.a.Corners, o.b.Corners) }

// Pairs returns all pairings with so many sides that meet.
func Pairs(a, b api.Outline, sides int) ([]api.Pairing, api.Errno) {
	o, e := outlinesOf(a, b)
	if e != api.OK {
		return nil, e
	}
	return slices.Collect(o.meeting(sides)), api.OK
}

// Longest returns how many sides a pairing that meets has at most.
func Longest(a, b api.Outline) (int, api.Errno) {
	o, e := outlinesOf(a, b)
	if e != api.OK {
		return 0, e
	}
	longest := o.most()
search:
	for ; longest > 0; longest-- {
		for range o.meeting(longest) {
			break search
		}
	}
	return longest, api.OK
}

// Maximal returns all pairings that meet and are not part of a longer one that meets.
func Maximal(a, b api.Outline) ([]api.Pairing, api.Errno) {
	o, e := outlinesOf(a, b)
	if e != api.OK {
		return nil, e
	}
	meet := map[api.Pairing]bool{}
	for n := range o.most() {
		for p := range o.meeting(n + 1) {
			meet[p] = true
		}
	}
	var list []api.Pairing
	for p := range meet {
		if grown(p, meet) == p {
			list = append(list, p)
		}
	}
	slices.SortFunc(list, byStretches)
	return list, api.OK
}

// grown returns a pairing with one side more, before A or behind it, if that is one of those that meet; otherwise the pairing itself.
func grown(p api.Pairing, meet map[api.Pairing]bool) api.Pairing {
	before, behind := p, p
	before.A.From--
	before.B.To++
	behind.A.To++
	behind.B.From--
	switch {
	case meet[before]:
		return before
	case meet[behind]:
		return behind
	}
	return p
}

func byStretches(p, q api.Pairing) int {
	return cmp.Or(cmp.Compare(p.A.From, q.A.From), cmp.Compare(p.A.To, q.A.To), cmp.Compare(p.B.From, q.B.From))
}
