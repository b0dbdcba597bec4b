package oracle

import (
	"math"
	"slices"

	"conjoin/api"
)

// Limited is the case L of the examples of whole and of sure.
func Limited() api.Case {
	return api.Case{Ware: "bell", Limit: 2, By: 20, Parts: []api.Part{
		{Sherds: []int{101}, Span: api.Span{Low: 10, High: 20, LowBy: 1, HighBy: 2}, Foot: true, FootBy: 11},
		{Sherds: []int{102}, Span: api.Span{Low: 15, High: 30, LowBy: 3, HighBy: 4}},
		{Sherds: []int{103}, Span: api.Span{Low: 25, High: 40, LowBy: 5, HighBy: 6}, Foot: true, FootBy: 12},
		{Sherds: []int{104}, Span: api.Span{Low: 12, High: 14, LowBy: 7, HighBy: 8}},
	}}
}

// Unlimited is a case without its limit; of Limited, it is the case U of the examples.
func Unlimited(c api.Case) api.Case {
	c.Limit, c.By = 0, 0
	return c
}

// Clash says whether two parts cannot be of one vessel.
func Clash(c api.Case, a, b int) bool {
	p, q := c.Parts[a], c.Parts[b]
	return a != b && (p.Foot && q.Foot || p.Span.Low > q.Span.High || q.Span.Low > p.Span.High)
}

// CanBeOne says whether no two of some parts clash.
func CanBeOne(c api.Case, parts []int) bool {
	for _, a := range parts {
		for _, b := range parts {
			if Clash(c, a, b) {
				return false
			}
		}
	}
	return true
}

// NumberOf is the number of vessels of a reassembly.
func NumberOf(v []int) int {
	n := 0
	for _, x := range v {
		n = max(n, x+1)
	}
	return n
}

// MembersOf are the parts of a vessel of a reassembly.
func MembersOf(v []int, vessel int) []int {
	var l []int
	for p, n := range v {
		if n == vessel {
			l = append(l, p)
		}
	}
	return l
}

// IsReassembly is what the chapters call a reassembly.
func IsReassembly(c api.Case, v []int) bool {
	if len(v) != len(c.Parts) || c.Limit != 0 && NumberOf(v) > c.Limit {
		return false
	}
	for p, n := range v {
		if n < 0 || n > NumberOf(v[:p]) || !CanBeOne(c, MembersOf(v, n)) {
			return false
		}
	}
	return true
}

// Reassemblies are all of a case, in their order.
func Reassemblies(c api.Case) [][]int {
	l := [][]int{nil}
	for range c.Parts {
		var longer [][]int
		for _, v := range l {
			for n := range NumberOf(v) + 1 {
				if w := append(slices.Clone(v), n); CanBeOne(c, MembersOf(w, n)) {
					longer = append(longer, w)
				}
			}
		}
		l = longer
	}
	return slices.DeleteFunc(l, func(v []int) bool { return !IsReassembly(c, v) })
}

// Numberings are lists of numbers for so many parts, reassemblies and others.
func Numberings(n int) [][]int {
	l := slices.Concat(Lists(n, -1, n), Lists(n+1, 0, n))
	if n > 0 {
		l = append(l, Lists(n-1, 0, n)...)
	}
	for _, far := range []int{math.MinInt, math.MaxInt} {
		for i := range n {
			v := make([]int, n)
			v[i] = far
			l = append(l, v)
		}
	}
	return l
}
