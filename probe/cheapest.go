package probe

import (
	"cmp"
	"math"
	"slices"

	"conjoin/api"
	"conjoin/sure"
)

// plans returns all sets, in their order, with what they cost.
func (s *study) plans() []api.Plan {
	var plans []api.Plan
	var grow func(set []int, from int)
	grow = func(set []int, from int) {
		plans = append(plans, api.Plan{Probes: slices.Clone(set), Cost: s.cost(set)})
		for p := from; p < len(s.probes); p++ {
			grow(append(set, p), p+1)
		}
	}
	grow(nil, 0)
	return plans
}

// byCost sorts a list by what its elements cost; those that cost the same keep their order.
func byCost[T any](list []T, cost func(T) int) []T {
	slices.SortStableFunc(list, func(x, y T) int { return cmp.Compare(cost(x), cost(y)) })
	return list
}

// cheapest returns the cheapest set that decides the two parts, of several the first one; false if there is none.
func (q question) cheapest() (api.Plan, bool) {
	plans := byCost(q.plans(), func(p api.Plan) int { return p.Cost })
	// The first one is empty, and the last one has all probes: what these leave open, no other set decides.
	if !q.decides(plans[0].Probes) && !q.decides(plans[len(plans)-1].Probes) {
		return api.Plan{}, false
	}
	return plans[slices.IndexFunc(plans, func(p api.Plan) bool { return q.decides(p.Probes) })], true
}

// widest returns the sets that cost less than something, and are in no other one that costs less.
func (s *study) widest(cost int) [][]int {
	cheaper := slices.DeleteFunc(s.plans(), func(p api.Plan) bool { return p.Cost >= cost })
	var list [][]int
search:
	for _, p := range cheaper {
		for _, o := range cheaper {
			if isIn(p.Probes, o.Probes) && !isIn(o.Probes, p.Probes) {
				continue search
			}
		}
		list = append(list, p.Probes)
	}
	return list
}

// Cheapest returns the cheapest set that decides two parts.
func Cheapest(c api.Case, l []api.Probe, a, b int) (api.Plan, bool, api.Errno) {
	q, e := ask(c, l, a, b)
	if e != api.OK {
		return api.Plan{}, false, e
	}
	p, ok := q.cheapest()
	return p, ok, api.OK
}

// Proof returns doubts that show that no set decides two parts which costs less than the cheapest one that does.
func Proof(c api.Case, l []api.Probe, a, b int) ([]api.Open, api.Errno) {
	q, e := ask(c, l, a, b)
	if e != api.OK {
		return nil, e
	}
	cost := math.MaxInt
	if p, ok := q.cheapest(); ok {
		cost = p.Cost
	}
	var list []api.Open
	for _, set := range q.widest(cost) {
		findings, _ := q.open(set)
		list = append(list, q.doubt(set, findings))
	}
	return list, api.OK
}

// offer is what decides two parts.
type offer struct {
	api.Pair
	api.Plan
}

// Best returns the open pair that is decided at the least cost, and the set that does.
func Best(c api.Case, l []api.Probe) (api.Pair, api.Plan, bool, api.Errno) {
	s, e := studyOf(c, l)
	if e != api.OK {
		return api.Pair{}, api.Plan{}, false, e
	}
	open, _ := sure.Open(c)
	var offers []offer
	for _, p := range open {
		if plan, ok := (question{s, p}).cheapest(); ok {
			offers = append(offers, offer{p, plan})
		}
	}
	if len(offers) == 0 {
		return api.Pair{}, api.Plan{}, false, api.OK
	}
	best := byCost(offers, func(o offer) int { return o.Cost })[0]
	return best.Pair, best.Plan, true, api.OK
}
