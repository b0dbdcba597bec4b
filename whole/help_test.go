package whole_test

import (
	"fmt"
	"math/rand/v2"
	"slices"
	"testing"

	"conjoin/api"
	"conjoin/oracle"
	"conjoin/whole"
)

// This file has an oracle: slow functions that say what is right as the chapter's words say it, without the package.

// part is a part of one sherd, without records.
func part(sherd, low, high int, foot bool) api.Part {
	return api.Part{Sherds: []int{sherd}, Span: api.Span{Low: low, High: high}, Foot: foot}
}

// crowded is the case M of the chapter's examples.
func crowded() api.Case {
	c := oracle.Unlimited(oracle.Limited())
	c.Parts = append(c.Parts, api.Part{Sherds: []int{105}, Span: api.Span{Low: 12, High: 13}, Foot: true, FootBy: 13})
	return c
}

// shades are the colours that some parts have in common.
func shades(c api.Case, parts []int) []int {
	var l []int
	for colour := range api.MaxColour + 1 {
		if !slices.ContainsFunc(parts, func(p int) bool { return colour < c.Parts[p].Span.Low || colour > c.Parts[p].Span.High }) {
			l = append(l, colour)
		}
	}
	return l
}

// leastOf is the least number of vessels.
func leastOf(c api.Case) int {
	least := len(c.Parts)
	for _, v := range oracle.Reassemblies(oracle.Unlimited(c)) {
		least = min(least, oracle.NumberOf(v))
	}
	return least
}

// subsets are all ascending lists of parts.
func subsets(c api.Case) [][]int {
	l := [][]int{nil}
	for p := range c.Parts {
		for _, s := range l {
			l = append(l, append(slices.Clone(s), p))
		}
	}
	return l
}

// isWitness is what the chapter calls a witness.
func isWitness(c api.Case, l []int) bool {
	for i, a := range l {
		if a < 0 || a >= len(c.Parts) || i > 0 && a <= l[i-1] {
			return false
		}
	}
	for i, a := range l {
		for _, b := range l[:i] {
			if !oracle.Clash(c, a, b) {
				return false
			}
		}
	}
	return true
}

// witnesses are all that have the greatest number of parts.
func witnesses(c api.Case) [][]int {
	l := slices.DeleteFunc(subsets(c), func(s []int) bool { return !isWitness(c, s) })
	most := 0
	for _, s := range l {
		most = max(most, len(s))
	}
	return slices.DeleteFunc(l, func(s []int) bool { return len(s) < most })
}

// demandOf is the demand of a range.
func demandOf(c api.Case, s api.Range) int {
	parts, feet := 0, 0
	for _, p := range c.Parts {
		if p.Span.Low >= s.Low && p.Span.High <= s.High {
			parts++
			if p.Foot {
				feet++
			}
		}
	}
	return max(feet, min(parts, 1))
}

// sumOf is what the demands of a show add up to; false if it is none.
func sumOf(c api.Case, s []api.Range) (int, bool) {
	sum := 0
	for i, r := range s {
		if r.Low < 0 || r.Low > r.High || r.High > 1000 || i > 0 && r.Low <= s[i-1].High {
			return 0, false
		}
		sum += demandOf(c, r)
	}
	return sum, true
}

// greatestShow is the greatest sum of a show with colours from one on; other ends than those of spans add nothing.
func greatestShow(c api.Case, from int) int {
	most := 0
	for _, p := range c.Parts {
		for _, q := range c.Parts {
			if r := (api.Range{Low: p.Span.Low, High: q.Span.High}); from <= r.Low && r.Low <= r.High {
				most = max(most, demandOf(c, r)+greatestShow(c, r.High+1))
			}
		}
	}
	return most
}

// glued is a case in which two parts that do not clash are one.
func glued(c api.Case, a, b int) api.Case {
	a, b = min(a, b), max(a, b)
	p, q := c.Parts[a], c.Parts[b]
	one := api.Part{Sherds: both(p.Sherds, q.Sherds), Rests: both(p.Rests, q.Rests), Span: p.Span, Foot: p.Foot || q.Foot}
	if p.Span.Low < q.Span.Low {
		one.Span.Low, one.Span.LowBy = q.Span.Low, q.Span.LowBy
	}
	if p.Span.High > q.Span.High {
		one.Span.High, one.Span.HighBy = q.Span.High, q.Span.HighBy
	}
	if one.FootBy = p.FootBy; q.Foot {
		one.FootBy = q.FootBy
	}
	parts := slices.Concat(c.Parts[:a], []api.Part{one}, c.Parts[a+1:b], c.Parts[b+1:])
	return api.Case{Ware: c.Ware, Limit: c.Limit, By: c.By, Parts: parts}
}

// both are the numbers that are in one of two lists.
func both(a, b []int) []int {
	in := map[int]bool{}
	for _, n := range slices.Concat(a, b) {
		in[n] = true
	}
	var l []int
	for n := range api.MaxId + 1 {
		if len(in) == 0 {
			break
		}
		if in[n] {
			l = append(l, n)
			delete(in, n)
		}
	}
	return l
}

// without is a case without a part.
func without(c api.Case, a int) api.Case {
	c.Parts = slices.Concat(c.Parts[:a], c.Parts[a+1:])
	return c
}

// isBar is what the chapter calls a bar.
func isBar(c api.Case, a, b int, l []int) bool {
	if oracle.Clash(c, a, b) {
		return len(l) == 0
	}
	return c.Limit > 0 && len(l) == c.Limit+1 && isWitness(glued(c, a, b), l)
}

// dice throws numbers that are the same in every run.
type dice struct{ *rand.Rand }

func newDice(seed uint64) dice { return dice{rand.New(rand.NewPCG(seed, 6))} }

// eachCase calls f with the cases of the examples, and with many by dice, of some parts at most.
func eachCase(t *testing.T, times, most int, f func(c api.Case)) {
	t.Helper()
	tight := crowded()
	tight.Limit = 2
	l := []api.Case{oracle.Limited(), oracle.Unlimited(oracle.Limited()), crowded(), tight, {Ware: "bell"}, {Ware: "bell", Limit: 1}}
	d := newDice(uint64(most))
	for i := range times {
		l = append(l, oracle.AnyCase(d, i%(most+1)))
	}
	for _, c := range l {
		if e := whole.CheckCase(c); e != api.OK {
			t.Fatalf("CheckCase(%+v): error %d", c, e)
		}
		f(c)
	}
}

// eachTwo calls f with each two different parts of many cases.
func eachTwo(t *testing.T, times, most int, f func(c api.Case, a, b int)) {
	t.Helper()
	eachCase(t, times, most, func(c api.Case) {
		for a := range c.Parts {
			for b := range c.Parts {
				if a != b {
					f(c, a, b)
				}
			}
		}
	})
}

// want holds results against what they should be; empty lists are alike.
func want(t *testing.T, what any, got, want []any) {
	t.Helper()
	if a, b := fmt.Sprintf("%+v", got), fmt.Sprintf("%+v", want); a != b {
		t.Errorf("%+v: %s, want %s", what, a, b)
	}
}

// all is several results as one list.
func all(x ...any) []any { return x }
