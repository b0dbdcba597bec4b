package join

import (
	"slices"

	"conjoin/api"
	"conjoin/edge"
)

// part returns what a reassembly takes of a sound group.
func (g group) part() api.Part {
	p := api.Part{Sherds: g.ids(), Span: api.Span{High: api.MaxColour}, Rests: g.rests()}
	for _, c := range asked(g.members, g.colour) {
		if c.Low > p.Span.Low {
			p.Span.Low, p.Span.LowBy = c.Low, c.LowBy
		}
		if c.High < p.Span.High {
			p.Span.High, p.Span.HighBy = c.High, c.HighBy
		}
	}
	if foot := slices.IndexFunc(g.members, hasFoot); foot >= 0 {
		p.Foot, p.FootBy = true, g.members[foot].Id
	}
	return p
}

// rests returns the records that glue a group.
func (g group) rests() []int {
	var ids []int
	is := map[int]bool{}
	for _, x := range g.joined {
		ids = append(ids, x.Id)
		is[x.Id] = true
	}
	for x := range counting(g.Claims, g.known) {
		if x.Kind == api.ClaimConfirm && is[x.Of] {
			ids = append(ids, x.Id)
		}
	}
	slices.Sort(ids)
	return ids
}

// Part returns the part of the group of a sherd.
func Part(f api.Files, known, sherd int) (api.Part, api.Errno) {
	g, e := soundGroupOf(f, known, sherd)
	if e != api.OK {
		return api.Part{}, e
	}
	return g.part(), api.OK
}

// Parts returns the parts of all sound groups of a ware.
func Parts(f api.Files, known int, ware string) ([]api.Part, api.Errno) {
	v, e := viewOf(f, known)
	if e != api.OK {
		return nil, e
	}
	var parts []api.Part
	for g := range v.groups() {
		// All sherds of a sound group have the ware of the first one.
		if g.members[0].Ware == ware && g.isSound() {
			parts = append(parts, g.part())
		}
	}
	return parts, api.OK
}

// Rests returns the records that glue the group of a sherd.
func Rests(f api.Files, known, sherd int) ([]int, api.Errno) {
	g, e := groupOf(f, known, sherd)
	if e != api.OK {
		return nil, e
	}
	return g.rests(), api.OK
}

// Bare returns the sides of a sherd that are in no stretch of a join.
func Bare(f api.Files, known, sherd int) ([]int, api.Errno) {
	g, e := groupOf(f, known, sherd)
	if e != api.OK {
		return nil, e
	}
	var sides []api.Stretch
	for _, x := range g.joined {
		for _, y := range ends(x) {
			if y.sherd == sherd {
				sides = append(sides, y.side)
			}
		}
	}
	return edge.Bare(g.outline(sherd), sides)
}
