package sherd

import (
	"cmp"
	"slices"
	"strings"

	"conjoin/api"
	"conjoin/gauge"
)

// piece is a sherd with the counting items that have it, in their order.
type piece struct {
	sherd api.Sherd
	items []api.Item
}

// pieces returns the sherds that there are on a day, by ascending Id, of a catalogue that was checked.
func pieces(l []api.Item, known int) []piece {
	var list []piece
	at := map[int]int{}
	for x := range counting(l, known) {
		if x.Kind == api.ItemSherd {
			at[x.Id] = len(list)
			list = append(list, piece{sherd: sherdIn(x)})
		}
		// A sherd counts as long as any item that has it does.
		if x.Sherd != 0 {
			p := &list[at[x.Sherd]]
			p.items = append(p.items, x)
		}
	}
	slices.SortFunc(list, func(p, q piece) int { return cmp.Compare(p.sherd.Id, q.sherd.Id) })
	return list
}

func sherdIn(x api.Item) api.Sherd {
	return api.Sherd{Id: x.Id, Ware: x.Ware, Pit: x.Pit, Layer: x.Layer, Corners: x.Corners, Foot: x.Foot}
}

// pieceOf returns one of the sherds that there are on a day, or the error of the catalogue, or of the sherd.
func pieceOf(l []api.Item, known, id int) (piece, api.Errno) {
	if _, e := Check(l); e != api.OK {
		return piece{}, e
	}
	var p piece
	for x := range counting(l, known) {
		if x.Kind == api.ItemSherd && x.Id == id {
			p.sherd = sherdIn(x)
		}
		if x.Sherd == id {
			p.items = append(p.items, x)
		}
	}
	// The Id 0 is that of items of no sherd; no sherd has it.
	if p.sherd.Id == 0 {
		return piece{}, api.ErrSherd
	}
	return p, api.OK
}

// of returns the items of one kind.
func (p piece) of(kind uint8) []api.Item {
	var some []api.Item
	for _, x := range p.items {
		if x.Kind == kind {
			some = append(some, x)
		}
	}
	return some
}

func (p piece) outline() api.Outline {
	return api.Outline{
		Corners: p.sherd.Corners,
		Ways:    p.wayBounds(p.of(api.ItemWay)),
		Turns:   p.turnBounds(p.of(api.ItemTurn)),
	}
}

// wayBounds returns what is known of the corners by nature and by some ways.
func (p piece) wayBounds(ways []api.Item) []api.Bound {
	var bounds []api.Bound
	for i := range p.sherd.Corners {
		bounds = append(bounds, api.Bound{From: i + 1, To: i, Most: -1})
	}
	return append(bounds, measured(ways)...)
}

// turnBounds returns what is known of the sides by nature and by some turns.
func (p piece) turnBounds(turns []api.Item) []api.Bound {
	var bounds []api.Bound
	for i := range p.sherd.Corners - 1 {
		bounds = append(bounds, api.Bound{From: i, To: i + 1, Most: 179}, api.Bound{From: i + 1, To: i, Most: 179})
	}
	return append(bounds, measured(turns)...)
}

func measured(items []api.Item) []api.Bound {
	var bounds []api.Bound
	for _, x := range items {
		bounds = append(bounds, api.Bound{From: x.From, To: x.To, Most: x.High, By: x.Id}, api.Bound{From: x.To, To: x.From, Most: -x.Low, By: x.Id})
	}
	return bounds
}

// wayEnd returns one end of what nature and some ways allow between two corners.
func (p piece) wayEnd(ways []api.Item, from, to int, upper bool) (int, bool, api.Errno) {
	s := Ways(api.Outline{Corners: p.sherd.Corners, Ways: p.wayBounds(ways)})
	if upper {
		return gauge.Greatest(s, from, to)
	}
	return gauge.Least(s, from, to)
}

// span returns the colours that are left, from Low to High; Low is the greater one if there are none.
func (p piece) span() api.Span {
	s := api.Span{High: api.MaxColour}
	for _, x := range p.of(api.ItemColour) {
		if x.Low > s.Low {
			s.Low, s.LowBy = x.Low, x.Id
		}
		if x.High < s.High {
			s.High, s.HighBy = x.High, x.Id
		}
	}
	return s
}

func (p piece) colour() (api.Span, api.Errno) {
	s := p.span()
	if s.Low > s.High {
		return api.Span{}, api.ErrDoubt
	}
	return s, api.OK
}

func (p piece) curves() (string, api.Errno) {
	set := common(p.of(api.ItemCurve))
	if set == "" {
		return "", api.ErrDoubt
	}
	return set, api.OK
}

// common returns the classes that are in the Set of all of some curves.
func common(curves []api.Item) string {
	set := allCurves
	for _, x := range curves {
		set = strings.Map(func(c rune) rune {
			if strings.ContainsRune(x.Set, c) {
				return c
			}
			return -1
		}, set)
	}
	return set
}
