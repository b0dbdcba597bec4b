package join

import (
	"conjoin/api"
	"conjoin/edge"
	"conjoin/profile"
	"conjoin/sherd"
)

// wrong returns the first thing that is wrong with a group. Each look may rely on those before it.
func (g group) wrong() api.Wrong {
	looks := [...]func(group) (a, b int, is bool){
		api.WrongMany:    group.wrongMany,
		api.WrongWare:    group.wrongWare,
		api.WrongMeet:    group.wrongMeet,
		api.WrongTwice:   group.wrongTwice,
		api.WrongHeight:  group.wrongHeight,
		api.WrongColour:  group.wrongColour,
		api.WrongFoot:    group.wrongFoot,
		api.WrongCurve:   group.wrongCurve,
		api.WrongProfile: group.wrongProfile,
	}
	for kind := api.WrongMany; kind <= api.WrongProfile; kind++ {
		if a, b, is := looks[kind](g); is {
			return api.Wrong{Kind: kind, A: a, B: b}
		}
	}
	return api.Wrong{}
}

func (g group) isSound() bool { return g.wrong() == api.Wrong{} }

func (g group) wrongMany() (int, int, bool) { return 0, 0, g.isLarge() }

func (g group) wrongWare() (int, int, bool) {
	return g.firstJoin(func(x api.Claim) bool { return g.named[x.A].Ware != g.named[x.B].Ware })
}

func (g group) wrongMeet() (int, int, bool) {
	return g.firstJoin(func(x api.Claim) bool {
		ok, _ := edge.Meets(g.outline(x.A), g.outline(x.B), pairing(x))
		return !ok
	})
}

// firstJoin returns the first join of which something is so.
func (g group) firstJoin(so func(api.Claim) bool) (int, int, bool) {
	for _, x := range g.joined {
		if so(x) {
			return x.Id, 0, true
		}
	}
	return 0, 0, false
}

// outline returns the outline of a sherd that is known.
func (v view) outline(id int) api.Outline {
	o, _ := sherd.Outline(v.Items, v.known, id)
	return o
}

func (g group) wrongTwice() (int, int, bool) {
	x, y, is := firstTwo(g.joined, shareSide)
	return x.Id, y.Id, is
}

// firstTwo returns the first two elements of a list, by the first one of them, of which something is so.
func firstTwo[T any](list []T, so func(x, y T) bool) (first, second T, is bool) {
search:
	for i, x := range list {
		for _, y := range list[i+1:] {
			if so(x, y) {
				first, second, is = x, y, true
				break search
			}
		}
	}
	return first, second, is
}

// end is one of the two sherds of a claim, with its stretch.
type end struct {
	sherd int
	side  api.Stretch
}

func ends(x api.Claim) [2]end { return [2]end{{x.A, x.SideA}, {x.B, x.SideB}} }

// shareSide reports whether two claims have a side of a sherd in common.
func shareSide(x, y api.Claim) bool {
	for _, s := range ends(x) {
		for _, t := range ends(y) {
			if s.sherd == t.sherd && edge.Overlap(s.side, t.side) {
				return true
			}
		}
	}
	return false
}

func (g group) wrongHeight() (int, int, bool) {
	_, e := g.heights()
	return 0, 0, e != api.OK
}

// tint is the colours that a sherd can have, or why there are none.
type tint struct {
	api.Span
	sherd int
	err   api.Errno
}

func (v view) colour(id int) tint {
	s, e := sherd.Colour(v.Items, v.known, id)
	return tint{s, id, e}
}

func (g group) wrongColour() (int, int, bool) {
	tints := asked(g.members, g.colour)
	for _, c := range tints {
		if c.err != api.OK {
			return c.sherd, 0, true
		}
	}
	c, d, is := firstTwo(tints, func(c, d tint) bool { return max(c.Low, d.Low) > min(c.High, d.High) })
	return c.sherd, d.sherd, is
}

func (g group) wrongFoot() (int, int, bool) {
	s, t, is := firstTwo(g.members, func(s, t api.Sherd) bool { return s.Foot && t.Foot })
	return s.Id, t.Id, is
}

func (g group) wrongCurve() (int, int, bool) {
	rings, _ := g.rings()
	for _, r := range rings {
		if r.Set == "" {
			return r.At, 0, true
		}
	}
	return 0, 0, false
}

func (g group) wrongProfile() (int, int, bool) {
	_, ok := g.completed()
	return 0, 0, !ok
}

// completed returns the first fit of a group whose heights do not contradict each other.
func (g group) completed() (api.Fit, bool) {
	rings, _ := g.rings()
	fit, ok, _ := profile.Complete(g.Types, g.members[0].Ware, rings)
	return fit, ok
}

// soundGroupOf is groupOf for functions that look at sound groups alone.
func soundGroupOf(f api.Files, known, id int) (group, api.Errno) {
	g, e := groupOf(f, known, id)
	if e != api.OK {
		return group{}, e
	}
	if !g.isSound() {
		return group{}, api.ErrWrong
	}
	return g, api.OK
}

// Sound returns the first thing that is wrong with the group of a sherd.
func Sound(f api.Files, known, sherd int) (api.Wrong, api.Errno) {
	g, e := groupOf(f, known, sherd)
	if e != api.OK {
		return api.Wrong{}, e
	}
	return g.wrong(), api.OK
}

// Completed returns the first fit of a sound group.
func Completed(f api.Files, known, sherd int) (api.Fit, api.Errno) {
	g, e := soundGroupOf(f, known, sherd)
	if e != api.OK {
		return api.Fit{}, e
	}
	fit, _ := g.completed()
	return fit, api.OK
}

// Would returns the first thing that would be wrong with the group of a claim if it were a join.
func Would(f api.Files, x api.Claim) (api.Wrong, api.Errno) {
	if _, e := longer(f, x); e != api.OK {
		return api.Wrong{}, e
	}
	if !isClaim(x) {
		return api.Wrong{}, api.ErrArg
	}
	v := look(f, x.Known, x)
	if !v.has(x.A) || !v.has(x.B) {
		return api.Wrong{}, api.ErrSherd
	}
	if !v.isJoin(x) {
		return api.Wrong{}, api.ErrArg
	}
	return v.group(x.A).wrong(), api.OK
}
