package stratum

import (
	"slices"

	"conjoin/api"
	"conjoin/gauge"
)

// unattained is more than any set costs.
const unattained = (api.MaxCost + 1) * api.MaxMoved

func (o order) hasDates() bool {
	_, ok, _ := gauge.Solve(o.system)
	return ok
}

// cheapest returns the cheapest sets with which there are dates, in their order, and what they cost; none and unattained if there are no such sets.
func (d *dig) cheapest() ([]set, int) {
	var found []set
	least := unattained
search:
	for s := range set(1) << len(d.admits) {
		cost := 0
		for i, x := range d.admits {
			if s.has(i) {
				cost += x.Cost
			}
			if cost > least {
				continue search
			}
		}
		if !d.order(s).hasDates() {
			continue
		}
		if cost < least {
			found, least = nil, cost
		}
		found = append(found, s)
	}
	return ascending(found, d.compare), least
}

// cheapestOf returns what is known on a day, with the cheapest sets and what they cost; ErrYears if there are none.
func cheapestOf(l []api.Trace, known int, b []api.Bond, named ...api.Place) (*dig, []set, int, api.Errno) {
	d, e := digOf(l, known, b)
	if e != api.OK {
		return nil, nil, 0, e
	}
	if e := d.lacks(named...); e != api.OK {
		return nil, nil, 0, e
	}
	sets, least := d.cheapest()
	if len(sets) == 0 {
		return nil, nil, 0, api.ErrYears
	}
	return d, sets, least, api.OK
}

// Cheapest returns the least cost, and the first cheapest set with which there are dates.
func Cheapest(l []api.Trace, known int, b []api.Bond) (int, []api.Place, api.Errno) {
	d, sets, least, e := cheapestOf(l, known, b)
	if e != api.OK {
		return 0, nil, e
	}
	return least, d.list(sets[0]), api.OK
}

// Sets returns all cheapest sets with which there are dates.
func Sets(l []api.Trace, known int, b []api.Bond) ([][]api.Place, api.Errno) {
	d, sets, _, e := cheapestOf(l, known, b)
	if e != api.OK {
		return nil, e
	}
	var list [][]api.Place
	for _, s := range sets {
		list = append(list, d.list(s))
	}
	return list, api.OK
}

// once returns a function that finds for each argument only once what another one finds.
func once[K comparable, V any](find func(K) V) func(K) V {
	found := map[K]V{}
	return func(k K) V {
		v, ok := found[k]
		if !ok {
			v = find(k)
			found[k] = v
		}
		return v
	}
}

// proof returns a proof for n. There have to be no dates with any set that costs less.
func (d *dig) proof(n int) []api.Cut {
	// A set comes once for each order of its places, but the circle is the same.
	circleOf := once(func(s set) []api.Link {
		circle, _ := d.order(s).conflict()
		return circle
	})
	var cuts []api.Cut
	var grow func(s set)
	grow = func(s set) {
		if d.cost(s) >= n {
			cuts = append(cuts, api.Cut{})
			return
		}
		circle := circleOf(s)
		cuts = append(cuts, api.Cut{Circle: slices.Clone(circle)})
		for _, i := range d.touched(circle) {
			grow(s.with(i))
		}
	}
	grow(0)
	return cuts
}

// Proof returns a proof that no set with which there are dates is cheaper than the least cost.
func Proof(l []api.Trace, known int, b []api.Bond) ([]api.Cut, api.Errno) {
	d, e := digOf(l, known, b)
	if e != api.OK {
		return nil, e
	}
	_, least := d.cheapest()
	return d.proof(least), api.OK
}

// noProof is what the panic for a cut that shows nothing carries.
type noProof struct{}

// isProof reports whether a list is a proof for n.
func (d *dig) isProof(n int, p []api.Cut) (ok bool) {
	defer func() {
		if recover() != nil {
			ok = false
		}
	}()
	orderWith := once(d.order)
	var walk func(s set)
	walk = func(s set) {
		if len(p) == 0 {
			panic(noProof{})
		}
		circle := p[0].Circle
		p = p[1:]
		if len(circle) == 0 && d.cost(s) >= n {
			return
		}
		if !orderWith(s).isConflict(circle) {
			panic(noProof{})
		}
		for _, i := range d.touched(circle) {
			walk(s.with(i))
		}
	}
	walk(0)
	return len(p) == 0
}

// CheckProof reports whether a list is a proof that no set with which there are dates costs less than n.
func CheckProof(l []api.Trace, known int, b []api.Bond, n int, p []api.Cut) (bool, api.Errno) {
	d, e := digOf(l, known, b)
	if e != api.OK {
		return false, e
	}
	if len(p) > api.MaxCuts {
		return false, api.ErrLimit
	}
	return d.isProof(n, p), api.OK
}

// Earlier returns whether, with each cheapest set, one place is certainly earlier than another one, or certainly not.
func Earlier(l []api.Trace, known int, b []api.Bond, from, to api.Place) (uint8, api.Errno) {
	d, sets, _, e := cheapestOf(l, known, b, from, to)
	if e != api.OK {
		return 0, e
	}
	isSure, isNever := true, true
	for _, s := range sets {
		o := d.order(s)
		back, ok, _ := o.between(to, from)
		isSure = isSure && ok && back < 0
		later, ok, _ := o.between(from, to)
		isNever = isNever && ok && later <= 0
	}
	switch {
	case isSure:
		return api.EarlierSure, api.OK
	case isNever:
		return api.EarlierNever, api.OK
	}
	return api.EarlierOpen, api.OK
}
