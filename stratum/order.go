package stratum

import (
	"slices"

	"conjoin/api"
	"conjoin/gauge"
)

// farthest is the last year that dates have, and with a minus sign the first one.
const farthest = 1000000

// order is what holds with some admitted places: the links, and the same as a system, with the indices of the year and of the places as points.
type order struct {
	*dig
	held   []api.Link
	system api.System
}

// order returns what holds with a set admitted.
func (d *dig) order(s set) order {
	o := order{dig: d, system: api.System{Points: len(d.points)}}
	for l := range d.links(s) {
		o.held = append(o.held, l)
		o.system.Bounds = append(o.system.Bounds, api.Bound{From: d.at[l.From], To: d.at[l.To], Most: l.Most, By: l.By})
	}
	return o
}

// orderOf returns what holds on a day with some admitted places, or what is wrong with these, or with places that are named besides.
func orderOf(l []api.Trace, known int, b []api.Bond, moved []api.Place, named ...api.Place) (order, api.Errno) {
	d, e := digOf(l, known, b)
	if e != api.OK {
		return order{}, e
	}
	s, e := d.setOf(moved)
	if e != api.OK {
		return order{}, e
	}
	if e := d.lacks(named...); e != api.OK {
		return order{}, e
	}
	return d.order(s), api.OK
}

// dates returns dates, and whether there are any. No link is so far that those of Solve could be too far from the year.
func (o order) dates() ([]api.Dating, bool) {
	x, ok, _ := gauge.Solve(o.system)
	if !ok {
		return nil, false
	}
	var list []api.Dating
	for i, p := range o.points[1:] {
		list = append(list, api.Dating{Place: p, Year: x[i+1] - x[0]})
	}
	return list, true
}

// areDates reports whether a list is dates.
func (o order) areDates(d []api.Dating) bool {
	if len(d) != len(o.points)-1 {
		return false
	}
	years := []int{0}
	for i, x := range d {
		if x.Place != o.points[i+1] || !within(x.Year, -farthest, farthest) {
			return false
		}
		years = append(years, x.Year)
	}
	ok, _ := gauge.Keeps(o.system, years)
	return ok
}

// picked returns the links with some indices.
func (o order) picked(indices []int) []api.Link {
	var list []api.Link
	for _, i := range indices {
		list = append(list, o.held[i])
	}
	return list
}

// conflict returns a contradiction with the fewest links, and whether there is one.
func (o order) conflict() ([]api.Link, bool) {
	circle, ok, _ := gauge.Circle(o.system)
	return o.picked(circle), ok
}

// isConflict reports whether a list is a contradiction. One with less than two links is none, since no link ends where it begins.
func (o order) isConflict(c []api.Link) bool {
	sum, left := 0, map[api.Place]bool{}
	for i, l := range c {
		next := c[(i+1)%len(c)]
		if l.To != next.From || left[l.From] || !slices.Contains(o.held, l) {
			return false
		}
		left[l.From] = true
		sum += l.Most
	}
	return sum < 0
}

// between returns by how many years one place can be later than another one at most, if there is a bound; ErrYears if there are no dates, as nothing else can be wrong here.
func (o order) between(from, to api.Place) (int, bool, api.Errno) {
	most, ok, e := gauge.Greatest(o.system, o.at[from], o.at[to])
	if e != api.OK {
		return 0, false, api.ErrYears
	}
	return most, ok, api.OK
}

// Links returns the links with some admitted places.
func Links(l []api.Trace, known int, b []api.Bond, moved []api.Place) ([]api.Link, api.Errno) {
	o, e := orderOf(l, known, b, moved)
	return o.held, e
}

// Dates returns dates with some admitted places, if there are any.
func Dates(l []api.Trace, known int, b []api.Bond, moved []api.Place) ([]api.Dating, bool, api.Errno) {
	o, e := orderOf(l, known, b, moved)
	if e != api.OK {
		return nil, false, e
	}
	list, ok := o.dates()
	return list, ok, api.OK
}

// CheckDates reports whether a list is dates with some admitted places.
func CheckDates(l []api.Trace, known int, b []api.Bond, moved []api.Place, d []api.Dating) (bool, api.Errno) {
	o, e := orderOf(l, known, b, moved)
	if e != api.OK {
		return false, e
	}
	return o.areDates(d), api.OK
}

// Conflict returns a contradiction with the fewest links, if there is one.
func Conflict(l []api.Trace, known int, b []api.Bond, moved []api.Place) ([]api.Link, bool, api.Errno) {
	o, e := orderOf(l, known, b, moved)
	if e != api.OK {
		return nil, false, e
	}
	circle, ok := o.conflict()
	return circle, ok, api.OK
}

// CheckConflict reports whether a list is a contradiction.
func CheckConflict(l []api.Trace, known int, b []api.Bond, moved []api.Place, c []api.Link) (bool, api.Errno) {
	o, e := orderOf(l, known, b, moved)
	if e != api.OK {
		return false, e
	}
	return o.isConflict(c), api.OK
}

// Between returns by how many years `to` can be later than `from` at most, if there is a bound.
func Between(l []api.Trace, known int, b []api.Bond, moved []api.Place, from, to api.Place) (most int, ok bool, e api.Errno) {
	o, e := orderOf(l, known, b, moved, from, to)
	if e != api.OK {
		return 0, false, e
	}
	return o.between(from, to)
}

// Path returns the links that show what Between returns.
func Path(l []api.Trace, known int, b []api.Bond, moved []api.Place, from, to api.Place) ([]api.Link, bool, api.Errno) {
	o, e := orderOf(l, known, b, moved, from, to)
	if e != api.OK {
		return nil, false, e
	}
	path, ok, e := gauge.Path(o.system, o.at[from], o.at[to])
	if e != api.OK {
		return nil, false, api.ErrYears
	}
	return o.picked(path), ok, api.OK
}
