package stratum

import (
	"cmp"
	"slices"

	"conjoin/api"
)

// Ids returns the records that links are by.
func Ids(c []api.Link) []int {
	var list []int
	for _, l := range c {
		if l.By != 0 {
			list = append(list, l.By)
		}
	}
	return ascending(list, cmp.Compare[int])
}

// end is an end of the years of a place: whether there is one, or ErrYears.
type end struct {
	year int
	ok   bool
	e    api.Errno
}

// span is the ends of the years of a place, each one as a difference against the year 0.
type span struct{ earliest, latest end }

// spans returns the spans of all places.
func (o order) spans() map[api.Place]span {
	spans := map[api.Place]span{}
	for _, p := range o.points[1:] {
		var s span
		s.earliest.year, s.earliest.ok, s.earliest.e = o.between(p, year)
		s.latest.year, s.latest.ok, s.latest.e = o.between(year, p)
		spans[p] = s
	}
	return spans
}

// Reached returns the places of whose years a further trace changes something.
func Reached(l []api.Trace, x api.Trace, b []api.Bond) ([]api.Place, api.Errno) {
	longer, e := Append(l, x)
	if e != api.OK {
		return nil, e
	}
	before, e := orderOf(l, x.Known, b, nil)
	if e != api.OK {
		return nil, e
	}
	after, e := orderOf(longer, x.Known, b, nil)
	if e != api.OK {
		return nil, e
	}
	// Where there are dates in just one of both, all spans differ, and where in neither, none.
	old, now := before.spans(), after.spans()
	var reached []api.Place
	for _, p := range ascending(slices.Concat(before.points[1:], after.points[1:]), comparePlaces) {
		s, was := old[p]
		t, is := now[p]
		if was != is || s != t {
			reached = append(reached, p)
		}
	}
	return reached, api.OK
}
