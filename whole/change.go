package whole

import (
	"slices"

	"conjoin/api"
)

// copied returns a case that shares no memory with another one.
func copied(c api.Case) api.Case {
	c.Parts = slices.Clone(c.Parts)
	for i, p := range c.Parts {
		c.Parts[i].Sherds, c.Parts[i].Rests = slices.Clone(p.Sherds), slices.Clone(p.Rests)
	}
	return c
}

// merged returns the case in which two parts that do not clash are one, a less than b, even if this one has too many sherds or records.
func merged(c api.Case, a, b int) api.Case {
	c = copied(c)
	p, q := c.Parts[a], c.Parts[b]
	p.Sherds, p.Rests = united(p.Sherds, q.Sherds), united(p.Rests, q.Rests)
	if q.Span.Low > p.Span.Low {
		p.Span.Low, p.Span.LowBy = q.Span.Low, q.Span.LowBy
	}
	if q.Span.High < p.Span.High {
		p.Span.High, p.Span.HighBy = q.Span.High, q.Span.HighBy
	}
	if q.Foot {
		p.Foot, p.FootBy = true, q.FootBy
	}
	c.Parts[a] = p
	c.Parts = slices.Delete(c.Parts, b, b+1)
	return c
}

// united returns the numbers of two lists, ascending, each once.
func united(a, b []int) []int {
	l := slices.Concat(a, b)
	slices.Sort(l)
	return slices.Compact(l)
}

// Merge returns the case in which two parts are one.
func Merge(c api.Case, a, b int) (api.Case, api.Errno) {
	v, e := viewOfTwo(c, a, b)
	if e != api.OK {
		return api.Case{}, e
	}
	if v.clash(a, b) {
		return api.Case{}, api.ErrClash
	}
	a, b = min(a, b), max(a, b)
	m := merged(c, a, b)
	if p := m.Parts[a]; len(p.Sherds) > api.MaxSherds || len(p.Rests) > api.MaxRests {
		return api.Case{}, api.ErrLimit
	}
	return m, api.OK
}

// Without returns the case without a part.
func Without(c api.Case, a int) (api.Case, api.Errno) {
	if _, e := viewOf(c, a); e != api.OK {
		return api.Case{}, e
	}
	return without(c, a), api.OK
}

func without(c api.Case, a int) api.Case {
	c = copied(c)
	c.Parts = slices.Delete(c.Parts, a, a+1)
	return c
}

// Limited returns the case with another limit.
func Limited(c api.Case, limit, by int) (api.Case, api.Errno) {
	if e := CheckCase(c); e != api.OK {
		return api.Case{}, e
	}
	c = copied(c)
	c.Limit, c.By = limit, by
	if e := CheckCase(c); e != api.OK {
		return api.Case{}, e
	}
	return c, api.OK
}
