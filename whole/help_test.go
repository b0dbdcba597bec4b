package whole_test

import (
	"fmt"
	"math/rand/v2"
	"slices"
	"testing"

	"conjoin/api"
	"conjoin/whole"
)

// This file has an oracle: slow functions that say what is right as the chapter's words say it, without the package.

// part is a part of one sherd, without records.
func part(sherd, low, high int, foot bool) api.Part {
	return api.Part{Sherds: []int{sherd}, Span: api.Span{Low: low, High: high}, Foot: foot}
}

// limited is the case L of the chapter's examples.
func limited() api.Case {
	return api.Case{Ware: "bell", Limit: 2, By: 20, Parts: []api.Part{
		{Sherds: []int{101}, Span: api.Span{Low: 10, High: 20, LowBy: 1, HighBy: 2}, Foot: true, FootBy: 11},
		{Sherds: []int{102}, Span: api.Span{Low: 15, High: 30, LowBy: 3, HighBy: 4}},
		{Sherds: []int{103}, Span: api.Span{Low: 25, High: 40, LowBy: 5, HighBy: 6}, Foot: true, FootBy: 12},
		{Sherds: []int{104}, Span: api.Span{Low: 12, High: 14, LowBy: 7, HighBy: 8}},
	}}
}

// unlimited is a case without its limit; of limited, it is the case U of the chapter's examples.
func unlimited(c api.Case) api.Case {
	c.Limit, c.By = 0, 0
	return c
}

// crowded is the case M of the chapter's examples.
func crowded() api.Case {
	c := unlimited(limited())
	c.Parts = append(c.Parts, api.Part{Sherds: []int{105}, Span: api.Span{Low: 12, High: 13}, Foot: true, FootBy: 13})
	return c
}

// shades are the colours that some parts have in common.
func shades(c api.Case, parts []int) []int {
	var l []int
	for colour := range api.MaxColour + 1 {
		if !slices.ContainsFunc(parts, func(p int) bool { return colour < c.Parts[p].Span.Low || colour > c.Parts[p].Span.High }) {
			l = append(l, colour)
		}
	}
	return l
}

func clash(c api.Case, a, b int) bool {
	p, q := c.Parts[a], c.Parts[b]
	return a != b && (p.Foot && q.Foot || p.Span.Low > q.Span.High || q.Span.Low > p.Span.High)
}

// canBeOne says whether no two of some parts clash.
func canBeOne(c api.Case, parts []int) bool {
	for _, a := range parts {
		for _, b := range parts {
			if clash(c, a, b) {
				return false
			}
		}
	}
	return true
}

// numberOf is the number of vessels of a reassembly.
func numberOf(v []int) int {
	n := 0
	for _, x := range v {
		n = max(n, x+1)
	}
	return n
}

// membersOf are the parts of a vessel of a reassembly.
func membersOf(v []int, vessel int) []int {
	var l []int
	for p, n := range v {
		if n == vessel {
			l = append(l, p)
		}
	}
	return l
}

// isReassembly is what the chapter calls a reassembly.
func isReassembly(c api.Case, v []int) bool {
	if len(v) != len(c.Parts) || c.Limit != 0 && numberOf(v) > c.Limit {
		return false
	}
	for p, n := range v {
		if n < 0 || n > numberOf(v[:p]) || !canBeOne(c, membersOf(v, n)) {
			return false
		}
	}
	return true
}

// reassemblies are all of a case.
func reassemblies(c api.Case) [][]int {
	l := [][]int{nil}
	for range c.Parts {
		var longer [][]int
		for _, v := range l {
			for n := range numberOf(v) + 1 {
				if w := append(slices.Clone(v), n); canBeOne(c, membersOf(w, n)) {
					longer = append(longer, w)
				}
			}
		}
		l = longer
	}
	return slices.DeleteFunc(l, func(v []int) bool { return !isReassembly(c, v) })
}

// leastOf is the least number of vessels.
func leastOf(c api.Case) int {
	least := len(c.Parts)
	for _, v := range reassemblies(unlimited(c)) {
		least = min(least, numberOf(v))
	}
	return least
}

// subsets are all ascending lists of parts.
func subsets(c api.Case) [][]int {
	l := [][]int{nil}
	for p := range c.Parts {
		for _, s := range l {
			l = append(l, append(slices.Clone(s), p))
		}
	}
	return l
}

// isWitness is what the chapter calls a witness.
func isWitness(c api.Case, l []int) bool {
	for i, a := range l {
		if a < 0 || a >= len(c.Parts) || i > 0 && a <= l[i-1] {
			return false
		}
	}
	for i, a := range l {
		for _, b := range l[:i] {
			if !clash(c, a, b) {
				return false
			}
		}
	}
	return true
}

// witnesses are all that have the greatest number of parts.
func witnesses(c api.Case) [][]int {
	l := slices.DeleteFunc(subsets(c), func(s []int) bool { return !isWitness(c, s) })
	most := 0
	for _, s := range l {
		most = max(most, len(s))
	}
	return slices.DeleteFunc(l, func(s []int) bool { return len(s) < most })
}

// demandOf is the demand of a range.
func demandOf(c api.Case, s api.Range) int {
	parts, feet := 0, 0
	for _, p := range c.Parts {
		if p.Span.Low >= s.Low && p.Span.High <= s.High {
			parts++
			if p.Foot {
				feet++
			}
		}
	}
	return max(feet, min(parts, 1))
}

// sumOf is what the demands of a show add up to; false if it is none.
func sumOf(c api.Case, s []api.Range) (int, bool) {
	sum := 0
	for i, r := range s {
		if r.Low < 0 || r.Low > r.High || r.High > 1000 || i > 0 && r.Low <= s[i-1].High {
			return 0, false
		}
		sum += demandOf(c, r)
	}
	return sum, true
}

// greatestShow is the greatest sum of a show with colours from one on; other ends than those of spans add nothing.
func greatestShow(c api.Case, from int) int {
	most := 0
	for _, p := range c.Parts {
		for _, q := range c.Parts {
			if r := (api.Range{Low: p.Span.Low, High: q.Span.High}); from <= r.Low && r.Low <= r.High {
				most = max(most, demandOf(c, r)+greatestShow(c, r.High+1))
			}
		}
	}
	return most
}

// glued is a case in which two parts that do not clash are one.
func glued(c api.Case, a, b int) api.Case {
	a, b = min(a, b), max(a, b)
	p, q := c.Parts[a], c.Parts[b]
	one := api.Part{Sherds: both(p.Sherds, q.Sherds), Rests: both(p.Rests, q.Rests), Span: p.Span, Foot: p.Foot || q.Foot}
	if p.Span.Low < q.Span.Low {
		one.Span.Low, one.Span.LowBy = q.Span.Low, q.Span.LowBy
	}
	if p.Span.High > q.Span.High {
		one.Span.High, one.Span.HighBy = q.Span.High, q.Span.HighBy
	}
	if one.FootBy = p.FootBy; q.Foot {
		one.FootBy = q.FootBy
	}
	parts := slices.Concat(c.Parts[:a], []api.Part{one}, c.Parts[a+1:b], c.Parts[b+1:])
	return api.Case{Ware: c.Ware, Limit: c.Limit, By: c.By, Parts: parts}
}

// both are the numbers that are in one of two lists.
func both(a, b []int) []int {
	in := map[int]bool{}
	for _, n := range slices.Concat(a, b) {
		in[n] = true
	}
	var l []int
	for n := range api.MaxId + 1 {
		if len(in) == 0 {
			break
		}
		if in[n] {
			l = append(l, n)
			delete(in, n)
		}
	}
	return l
}

// without is a case without a part.
func without(c api.Case, a int) api.Case {
	c.Parts = slices.Concat(c.Parts[:a], c.Parts[a+1:])
	return c
}

// isBar is what the chapter calls a bar.
func isBar(c api.Case, a, b int, l []int) bool {
	if clash(c, a, b) {
		return len(l) == 0
	}
	return c.Limit > 0 && len(l) == c.Limit+1 && isWitness(glued(c, a, b), l)
}

// dice throws numbers that are the same in every run.
type dice struct{ *rand.Rand }

func newDice(seed uint64) dice { return dice{rand.New(rand.NewPCG(seed, 6))} }

func (d dice) oneOf(l ...int) int { return l[d.IntN(len(l))] }

// some are numbers from 1 to a greatest one, each one taken once in so many times.
func (d dice) some(most, times int) []int {
	var l []int
	for n := 1; n <= most; n++ {
		if d.IntN(times) == 0 {
			l = append(l, n)
		}
	}
	return l
}

// by is the record of what is so, or of none.
func (d dice) by(isSo bool) int {
	if !isSo || d.IntN(5) == 0 {
		return 0
	}
	return 1 + d.IntN(50)
}

// anyParts have colours near each other, perhaps at an end of all colours.
func (d dice) anyParts(n int) []api.Part {
	wide, times := d.oneOf(4, n+2, 2*n+2, 3*n+2), d.oneOf(1, 2, 4, 4, 8, 8, 1000)
	from, longest := d.oneOf(0, 500, api.MaxColour-wide), d.oneOf(1, 4, 1+wide/2, 1+wide/2, wide, wide)
	deck := d.Perm(4 * n)
	var l []api.Part
	for i := range n {
		p := api.Part{Rests: d.some(9, 3), Foot: d.IntN(times) == 0}
		for _, id := range deck[4*i : 4*i+1+d.IntN(4)] {
			p.Sherds = append(p.Sherds, id+1)
		}
		slices.Sort(p.Sherds)
		low := from + d.IntN(wide+1)
		high := min(low+d.IntN(longest+1), from+wide)
		p.Span = api.Span{Low: low, High: high, LowBy: d.by(low > 0), HighBy: d.by(high < api.MaxColour)}
		p.FootBy = d.by(p.Foot)
		l = append(l, p)
	}
	return l
}

func (d dice) anyCase(n int) api.Case {
	c := api.Case{Ware: []string{"bell", "c", "jar-2"}[d.IntN(3)], Parts: d.anyParts(n)}
	if d.IntN(4) > 0 {
		c.Limit = 1 + d.IntN(min(n/2+1+d.IntN(n+1), api.MaxLimit))
		c.By = d.by(true)
	}
	return c
}

// eachCase calls f with the cases of the examples, and with many by dice, of some parts at most.
func eachCase(t *testing.T, times, most int, f func(c api.Case)) {
	t.Helper()
	tight := crowded()
	tight.Limit = 2
	l := []api.Case{limited(), unlimited(limited()), crowded(), tight, {Ware: "bell"}, {Ware: "bell", Limit: 1}}
	d := newDice(uint64(most))
	for i := range times {
		l = append(l, d.anyCase(i%(most+1)))
	}
	for _, c := range l {
		if e := whole.CheckCase(c); e != api.OK {
			t.Fatalf("CheckCase(%+v): error %d", c, e)
		}
		f(c)
	}
}

// eachTwo calls f with each two different parts of many cases.
func eachTwo(t *testing.T, times, most int, f func(c api.Case, a, b int)) {
	t.Helper()
	eachCase(t, times, most, func(c api.Case) {
		for a := range c.Parts {
			for b := range c.Parts {
				if a != b {
					f(c, a, b)
				}
			}
		}
	})
}

// lists are all lists of numbers of a length, each number from low to high.
func lists(length, low, high int) [][]int {
	l := [][]int{nil}
	for range length {
		var longer [][]int
		for _, x := range l {
			for n := low; n <= high; n++ {
				longer = append(longer, append(slices.Clone(x), n))
			}
		}
		l = longer
	}
	return l
}

// want holds results against what they should be; empty lists are alike.
func want(t *testing.T, what any, got, want []any) {
	t.Helper()
	if a, b := fmt.Sprintf("%+v", got), fmt.Sprintf("%+v", want); a != b {
		t.Errorf("%+v: %s, want %s", what, a, b)
	}
}

// all is several results as one list.
func all(x ...any) []any { return x }
