package stratum

import (
	"cmp"

	"conjoin/api"
)

// year is the place that stands for the year 0.
var year = api.Place{}

// CheckTrace returns ErrArg for a trace that is not well-formed.
func CheckTrace(x api.Trace) api.Errno {
	if !isId(x.Id) || !within(x.Known, 0, api.MaxDay) || x != bare(x) || !isFilled(x) {
		return api.ErrArg
	}
	return api.OK
}

// fields returns the fields that the kind of a trace has, in the order of its line.
func fields(x *api.Trace) []*int {
	switch x.Kind {
	case api.TraceAbove:
		return []*int{&x.Pit, &x.Layer, &x.Lower}
	case api.TraceDated:
		return []*int{&x.Pit, &x.Layer, &x.Low, &x.High}
	case api.TraceMoved:
		return []*int{&x.Pit, &x.Layer, &x.Cost}
	case api.TraceVoid:
		return []*int{&x.Of}
	}
	return nil
}

// bare returns a trace without the fields that its kind does not have.
func bare(x api.Trace) api.Trace {
	y := api.Trace{Id: x.Id, Known: x.Known, Kind: x.Kind}
	from := fields(&x)
	for i, field := range fields(&y) {
		*field = *from[i]
	}
	return y
}

// isFilled reports whether the fields that the kind of a trace has are as said; no kind but those that there are has any.
func isFilled(x api.Trace) bool {
	switch x.Kind {
	case api.TraceAbove:
		return isPlace(trace(x).layer()) && isPlace(trace(x).lower()) && x.Lower != x.Layer
	case api.TraceDated:
		return isPlace(trace(x).layer()) && -api.MaxYear <= x.Low && x.Low <= x.High && x.High <= api.MaxYear
	case api.TraceMoved:
		return isPlace(trace(x).layer()) && within(x.Cost, 1, api.MaxCost)
	case api.TraceVoid:
		return isId(x.Of)
	}
	return false
}

func isPlace(p api.Place) bool {
	return within(p.Pit, 1, api.MaxPits) && within(p.Layer, 1, api.MaxLayers)
}

func isId(n int) bool { return within(n, 1, api.MaxId) }

func within(n, low, high int) bool { return low <= n && n <= high }

func comparePlaces(p, q api.Place) int {
	return cmp.Or(cmp.Compare(p.Pit, q.Pit), cmp.Compare(p.Layer, q.Layer))
}

// trace is a trace that makes links.
type trace api.Trace

func (x trace) layer() api.Place { return api.Place{Pit: x.Pit, Layer: x.Layer} }

func (x trace) lower() api.Place { return api.Place{Pit: x.Pit, Layer: x.Lower} }

// links returns what a trace that counts makes of links.
func (x trace) links() []api.Link {
	makes := [...]func(trace) []api.Link{
		api.TraceAbove: trace.above,
		api.TraceDated: trace.dated,
		api.TraceMoved: trace.moved,
	}
	return makes[x.Kind](x)
}

func (x trace) above() []api.Link {
	return []api.Link{{From: x.layer(), To: x.lower(), Most: -1, By: x.Id}}
}

func (x trace) dated() []api.Link {
	return []api.Link{
		{From: year, To: x.layer(), Most: x.High, By: x.Id},
		{From: x.layer(), To: year, Most: -x.Low, By: x.Id},
	}
}

func (x trace) moved() []api.Link { return nil }

// bondLinks returns what a bond makes of links.
func bondLinks(b api.Bond) []api.Link {
	return []api.Link{{From: b.A, To: b.B, By: b.By}, {From: b.B, To: b.A, By: b.By}}
}

// isOfBond reports whether a bond makes a link: of those that traces make, none between two layers has the Most 0.
func isOfBond(l api.Link) bool { return l.Most == 0 && l.From != year && l.To != year }
