package sherd

import (
	"slices"

	"conjoin/api"
	"conjoin/gauge"
)

// measures are the kinds of items that the kinds of doubts are of.
var measures = [...]uint8{
	api.DoubtWay:    api.ItemWay,
	api.DoubtTurn:   api.ItemTurn,
	api.DoubtColour: api.ItemColour,
	api.DoubtCurve:  api.ItemCurve,
}

// contradict reports whether some items of a sherd, all of the kind that a doubt is of, contradict each other.
func (p piece) contradict(doubt uint8, items []api.Item) bool {
	switch doubt {
	case api.DoubtWay:
		return isUnsolvable(Ways(api.Outline{Corners: p.sherd.Corners, Ways: p.wayBounds(items)}))
	case api.DoubtTurn:
		return isUnsolvable(Turns(api.Outline{Corners: p.sherd.Corners, Turns: p.turnBounds(items)}))
	case api.DoubtColour:
		s := piece{items: items}.span()
		return s.Low > s.High
	}
	return common(items) == ""
}

func isUnsolvable(s api.System) bool {
	_, ok, _ := gauge.Solve(s)
	return !ok
}

// Doubts returns measurements of a sherd that contradict each other, of each kind.
func Doubts(l []api.Item, known, id int) ([]api.Doubt, api.Errno) {
	p, e := pieceOf(l, known, id)
	if e != api.OK {
		return nil, e
	}
	var list []api.Doubt
	for kind := api.DoubtWay; kind <= api.DoubtCurve; kind++ {
		items := p.of(measures[kind])
		contradict := func(less []api.Item) bool { return p.contradict(kind, less) }
		if contradict(items) {
			list = append(list, api.Doubt{Kind: kind, Ids: idsOf(needed(items, contradict))})
		}
	}
	return list, api.OK
}

// CheckDoubt reports whether measurements of a sherd contradict each other as a doubt says.
func CheckDoubt(l []api.Item, known, id int, d api.Doubt) (bool, api.Errno) {
	p, e := pieceOf(l, known, id)
	if e != api.OK {
		return false, e
	}
	items, ok := p.named(d)
	return ok && p.contradict(d.Kind, items), api.OK
}

// named returns the items that a doubt names, and whether it is one by its form.
func (p piece) named(d api.Doubt) ([]api.Item, bool) {
	if d.Kind < api.DoubtWay || d.Kind > api.DoubtCurve || d.Kind == api.DoubtColour && len(d.Ids) != 2 {
		return nil, false
	}
	there := map[int]api.Item{}
	for _, x := range p.of(measures[d.Kind]) {
		there[x.Id] = x
	}
	var items []api.Item
	for i, id := range d.Ids {
		x, ok := there[id]
		if !ok || i > 0 && id <= d.Ids[i-1] {
			return nil, false
		}
		items = append(items, x)
	}
	return items, true
}

// needed goes through a list from the last one to the first one, leaves out each one without which something still holds, and returns the others.
func needed[T any](list []T, holds func([]T) bool) []T {
	for i := len(list) - 1; i >= 0; i-- {
		if less := slices.Concat(list[:i], list[i+1:]); holds(less) {
			list = less
		}
	}
	return list
}

// idsOf returns the Ids of items, ascending.
func idsOf(items []api.Item) []int {
	var ids []int
	for _, x := range items {
		ids = append(ids, x.Id)
	}
	slices.Sort(ids)
	return ids
}

// Rests returns the ways on which one end of the way between two corners rests.
func Rests(l []api.Item, known, id, from, to int, upper bool) ([]int, api.Errno) {
	p, e := pieceWithWay(l, known, id, from, to)
	if e != api.OK {
		return nil, e
	}
	ways := p.of(api.ItemWay)
	end, there, e := p.wayEnd(ways, from, to, upper)
	if e != api.OK {
		return nil, api.ErrDoubt
	}
	return idsOf(needed(ways, func(less []api.Item) bool {
		n, ok, _ := p.wayEnd(less, from, to, upper)
		return n == end && ok == there
	})), api.OK
}

// ColourRests returns the items on which the colour of a sherd rests.
func ColourRests(l []api.Item, known, id int) ([]int, api.Errno) {
	s, e := Colour(l, known, id)
	if e != api.OK {
		return nil, e
	}
	var ids []int
	for _, by := range []int{min(s.LowBy, s.HighBy), max(s.LowBy, s.HighBy)} {
		if by != 0 {
			ids = append(ids, by)
		}
	}
	return slices.Compact(ids), api.OK
}

// look is what two views of a sherd are told apart by, beside its outline.
type look struct {
	span      api.Span
	doubtful  api.Errno
	curves    string
	curveless api.Errno
}

func (p piece) look() look {
	var x look
	x.span, x.doubtful = p.colour()
	x.curves, x.curveless = p.curves()
	return x
}

// isLike reports whether nothing that matters of a sherd is another in two views of it.
func (p piece) isLike(q piece) bool {
	a, b := p.outline(), q.outline()
	return p.look() == q.look() && slices.Equal(a.Ways, b.Ways) && slices.Equal(a.Turns, b.Turns)
}

// apart returns the sherds that are in just one of two lists, or not alike in both.
func apart(before, after []piece) []int {
	had := map[int]piece{}
	for _, p := range before {
		had[p.sherd.Id] = p
	}
	var ids []int
	for _, p := range after {
		q, ok := had[p.sherd.Id]
		if !ok || !p.isLike(q) {
			ids = append(ids, p.sherd.Id)
		}
		delete(had, p.sherd.Id)
	}
	for id := range had {
		ids = append(ids, id)
	}
	slices.Sort(ids)
	return ids
}

// Changed returns the sherds that are not the same on two days.
func Changed(l []api.Item, from, to int) ([]int, api.Errno) {
	if _, e := Check(l); e != api.OK {
		return nil, e
	}
	return apart(pieces(l, from), pieces(l, to)), api.OK
}

// Reached returns the sherds that are not the same with an item more.
func Reached(l []api.Item, x api.Item) ([]int, api.Errno) {
	longer, e := Append(l, x)
	if e != api.OK {
		return nil, e
	}
	return apart(pieces(l, x.Known), pieces(longer, x.Known)), api.OK
}
