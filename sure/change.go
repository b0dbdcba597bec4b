package sure

import (
	"slices"

	"conjoin/api"
)

// copiedCase returns a case that shares no memory with another one.
func copiedCase(c api.Case) api.Case {
	c.Parts = copied(c.Parts)
	for i, p := range c.Parts {
		c.Parts[i].Sherds, c.Parts[i].Rests = copied(p.Sherds), copied(p.Rests)
	}
	return c
}

// idsOf returns the Ids of a case, ascending.
func idsOf(c api.Case) []int {
	ids := []int{c.By}
	for _, p := range c.Parts {
		ids = append(ids, p.Span.LowBy, p.Span.HighBy, p.FootBy)
	}
	return idsAmong(ids)
}

// without returns the case without an Id, which is not 0.
func without(c api.Case, id int) api.Case {
	c = copiedCase(c)
	if c.By == id {
		c.Limit, c.By = 0, 0
	}
	for i := range c.Parts {
		p := &c.Parts[i]
		if p.Span.LowBy == id {
			p.Span.Low, p.Span.LowBy = 0, 0
		}
		if p.Span.HighBy == id {
			p.Span.High, p.Span.HighBy = api.MaxColour, 0
		}
		if p.FootBy == id {
			p.Foot, p.FootBy = false, 0
		}
	}
	return c
}

// Without returns the case without an Id.
func Without(c api.Case, id int) (api.Case, api.Errno) {
	if e := CheckCase(c); e != api.OK {
		return api.Case{}, e
	}
	if id == 0 {
		return api.Case{}, api.ErrArg
	}
	return without(c, id), api.OK
}

// Only returns the case without its Ids that are not in a list.
func Only(c api.Case, ids []int) (api.Case, api.Errno) {
	if e := CheckCase(c); e != api.OK {
		return api.Case{}, e
	}
	less := copiedCase(c)
	for _, id := range idsOf(c) {
		if !slices.Contains(ids, id) {
			less = without(less, id)
		}
	}
	return less, api.OK
}

// Lineage returns the Ids on which the answer of two parts rests.
func Lineage(c api.Case, a, b int) ([]int, api.Errno) {
	v, e := wholeViewOf(c, a, b)
	if e != api.OK {
		return nil, e
	}
	answer := v.answer(a, b)
	var lineage []int
	for _, id := range slices.Backward(idsOf(c)) {
		less := without(c, id)
		if read(less).answer(a, b) == answer {
			c = less
		} else {
			lineage = append(lineage, id)
		}
	}
	slices.Reverse(lineage)
	return lineage, api.OK
}

// Narrow returns the case in which a further measurement of the colour of a part counts.
func Narrow(c api.Case, part, low, high, id int) (api.Case, api.Errno) {
	if _, e := viewOf(c, part); e != api.OK {
		return api.Case{}, e
	}
	if !isRange(low, high) || !isId(id) {
		return api.Case{}, api.ErrArg
	}
	c = copiedCase(c)
	s := &c.Parts[part].Span
	if low > s.Low {
		s.Low, s.LowBy = low, id
	}
	if high < s.High {
		s.High, s.HighBy = high, id
	}
	if s.Low > s.High {
		return api.Case{}, api.ErrNone
	}
	return c, api.OK
}

// Reached returns the pairs whose answers in two cases differ.
func Reached(c, d api.Case) ([]api.Pair, api.Errno) {
	v, e := viewOf(c)
	if e != api.OK {
		return nil, e
	}
	w, e := viewOf(d)
	if e != api.OK {
		return nil, e
	}
	if len(v.Parts) != len(w.Parts) {
		return nil, api.ErrArg
	}
	if !v.isWhole() || !w.isWhole() {
		return nil, api.ErrWhole
	}
	var reached []api.Pair
	for p := range pairs(len(v.Parts)) {
		if v.answer(p.A, p.B) != w.answer(p.A, p.B) {
			reached = append(reached, p)
		}
	}
	return reached, api.OK
}
