package stratum

import (
	"iter"
	"slices"

	"conjoin/api"
)

// set is movable places: the bit with the index of a place says whether it is admitted.
type set int

func (s set) has(i int) bool { return s>>i&1 == 1 }

func (s set) with(i int) set { return s | 1<<i }

// admissions are the places that are movable.
type admissions struct {
	admits []api.Admit // by ascending Place
}

// indexOf returns the index of a movable place, -1 for another one.
func (a admissions) indexOf(p api.Place) int {
	return slices.IndexFunc(a.admits, func(x api.Admit) bool { return x.Place == p })
}

// setOf returns admitted places as a set, or what is wrong with them.
func (a admissions) setOf(moved []api.Place) (set, api.Errno) {
	for i := 1; i < len(moved); i++ {
		if comparePlaces(moved[i-1], moved[i]) >= 0 {
			return 0, api.ErrArg
		}
	}
	s := set(0)
	for _, p := range moved {
		i := a.indexOf(p)
		if i < 0 {
			return 0, api.ErrMoved
		}
		s = s.with(i)
	}
	return s, api.OK
}

// list returns the places of a set, ascending.
func (a admissions) list(s set) []api.Place {
	var list []api.Place
	for i, x := range a.admits {
		if s.has(i) {
			list = append(list, x.Place)
		}
	}
	return list
}

func (a admissions) compare(s, t set) int {
	return slices.CompareFunc(a.list(s), a.list(t), comparePlaces)
}

func (a admissions) cost(s set) int {
	cost := 0
	for i, x := range a.admits {
		if s.has(i) {
			cost += x.Cost
		}
	}
	return cost
}

// touched returns the movable places, by their indices, that the bonds among some links touch.
func (a admissions) touched(links []api.Link) []int {
	var list []int
	for i, x := range a.admits {
		touches := func(l api.Link) bool { return isOfBond(l) && (l.From == x.Place || l.To == x.Place) }
		if slices.ContainsFunc(links, touches) {
			list = append(list, i)
		}
	}
	return list
}

// dig is what is known of layers on a day.
type dig struct {
	admissions
	traces []api.Trace // those that count
	bonds  []api.Bond
	points []api.Place       // the year and the places, ascending
	at     map[api.Place]int // their indices
}

// digOf returns what is known on a day, or what is wrong with it.
func digOf(l []api.Trace, known int, b []api.Bond) (*dig, api.Errno) {
	if _, e := Check(l); e != api.OK {
		return nil, e
	}
	if e := CheckBonds(b); e != api.OK {
		return nil, e
	}
	d := &dig{traces: slices.Collect(counting(l, known)), bonds: b, at: map[api.Place]int{}}
	d.points = ascending(d.named(), comparePlaces)
	for i, p := range d.points {
		d.at[p] = i
	}
	d.admits = d.movable()
	if len(d.points) > 1+api.MaxStrata || len(d.admits) > api.MaxMoved {
		return nil, api.ErrLimit
	}
	return d, api.OK
}

// named returns the year, and the places that traces and bonds name, some of them perhaps more than once.
func (d *dig) named() []api.Place {
	list := []api.Place{year}
	for _, x := range d.traces {
		list = append(list, trace(x).layer())
		if x.Kind == api.TraceAbove {
			list = append(list, trace(x).lower())
		}
	}
	for _, b := range d.bonds {
		list = append(list, b.A, b.B)
	}
	return list
}

func (d *dig) movable() []api.Admit {
	last := map[api.Place]api.Admit{}
	for _, x := range d.traces {
		if x.Kind == api.TraceMoved {
			p := trace(x).layer()
			last[p] = api.Admit{Place: p, Cost: x.Cost, By: x.Id}
		}
	}
	var list []api.Admit
	for _, p := range d.points {
		if x, ok := last[p]; ok {
			list = append(list, x)
		}
	}
	return list
}

// lacks returns ErrNone if one of some places is none that is known.
func (d *dig) lacks(places ...api.Place) api.Errno {
	for _, p := range places {
		if _, ok := d.at[p]; !ok {
			return api.ErrNone
		}
	}
	return api.OK
}

// links yields the links with a set admitted, in their order.
func (d *dig) links(s set) iter.Seq[api.Link] {
	return func(yield func(api.Link) bool) {
		for _, x := range d.traces {
			for _, l := range trace(x).links() {
				if !yield(l) {
					return
				}
			}
		}
		moved := d.list(s)
		for _, b := range d.bonds {
			if slices.Contains(moved, b.A) || slices.Contains(moved, b.B) {
				continue
			}
			for _, l := range bondLinks(b) {
				if !yield(l) {
					return
				}
			}
		}
	}
}

// ascending sorts a list, and returns what is in it, each once.
func ascending[T comparable](list []T, compare func(a, b T) int) []T {
	slices.SortFunc(list, compare)
	return slices.Compact(list)
}

// Places returns the places on a day.
func Places(l []api.Trace, known int, b []api.Bond) ([]api.Place, api.Errno) {
	d, e := digOf(l, known, b)
	if e != api.OK {
		return nil, e
	}
	return d.points[1:], api.OK
}

// Movable returns the admissions on a day.
func Movable(l []api.Trace, known int, b []api.Bond) ([]api.Admit, api.Errno) {
	d, e := digOf(l, known, b)
	if e != api.OK {
		return nil, e
	}
	return d.admits, api.OK
}
