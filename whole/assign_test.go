package whole_test

import (
	"math"
	"slices"
	"testing"

	"conjoin/api"
	"conjoin/oracle"
	"conjoin/whole"
)

func TestExamplesOfVessels(t *testing.T) {
	c := oracle.Limited()
	u, tight := oracle.Unlimited(c), crowded()
	tight.Limit = 2
	want(t, "numbers", all(whole.Numbers(c)), all(2, 2, true, api.OK))
	want(t, "numbers without a limit", all(whole.Numbers(u)), all(2, 4, true, api.OK))
	want(t, "no numbers", all(whole.Numbers(tight)), all(0, 0, false, api.OK))
	want(t, "numbers of none", all(whole.Numbers(api.Case{Ware: "bell", Limit: 3})), all(0, 0, true, api.OK))
	for _, x := range []struct {
		c  api.Case
		v  []int
		is bool
	}{{c, []int{0, 1, 1, 0}, true}, {c, []int{0, 0, 1, 2}, false}, {u, []int{0, 0, 1, 2}, true}, {u, []int{0, 2, 1, 1}, false}} {
		want(t, x, all(whole.CheckAssign(x.c, x.v)), all(x.is, api.OK))
	}
	want(t, "colours", all(whole.Colours(c, []int{0, 1, 1, 0})), all([]api.Range{{Low: 12, High: 14}, {Low: 25, High: 30}}, api.OK))
	want(t, "colours of none", all(whole.Colours(c, []int{0, 0, 1, 2})), all([]api.Range{}, api.ErrArg))
	want(t, "joint", all(whole.Joint(c, 0, 3)), all([]int{0, 1, 1, 0}, true, api.OK))
	want(t, "not joint", all(whole.Joint(c, 0, 1)), all([]int{}, false, api.OK))
	want(t, "bar", all(whole.Bar(c, 0, 1)), all([]int{0, 1, 2}, true, api.OK))
	want(t, "bar of what clashes", all(whole.Bar(c, 0, 2)), all([]int{}, true, api.OK))
	want(t, "no bar", all(whole.Bar(c, 0, 3)), all([]int{}, false, api.OK))
	want(t, "no bar without a limit", all(whole.Bar(u, 0, 1)), all([]int{}, false, api.OK))
	want(t, "assigned", all(whole.Assign(c, 2)), all([]int{0, 1, 1, 0}, true, api.OK))
	want(t, "nothing to assign", all(whole.Assign(api.Case{Ware: "bell", Limit: 3}, 0)), all([]int{}, true, api.OK))
	want(t, "nothing assigned", all(whole.Assign(api.Case{Ware: "bell"}, 1)), all([]int{}, false, api.OK))
}

// TestNumbers is F9 and P6.3, against the oracle.
func TestNumbers(t *testing.T) {
	none, some := 0, 0
	eachCase(t, 600, 7, func(c api.Case) {
		there := map[int]bool{}
		for _, v := range oracle.Reassemblies(c) {
			there[oracle.NumberOf(v)] = true
		}
		low, high, ok, e := whole.Numbers(c)
		want(t, c, all(ok, e), all(len(there) > 0, api.OK))
		if !ok {
			want(t, c, all(low, high), all(0, 0))
			none++
		}
		for _, n := range []int{-1, 0, 1, 2, 3, 4, 5, 6, 7, 8, 40, 41, math.MinInt, math.MaxInt} {
			if is := ok && low <= n && n <= high; is != there[n] {
				t.Errorf("%+v: %d to %d, %v, but there are %v", c, low, high, ok, there)
			}
			v, is, e := whole.Assign(c, n)
			want(t, c, all(is, e), all(there[n], api.OK))
			if is && (oracle.NumberOf(v) != n || !oracle.IsReassembly(c, v)) || !is && len(v) > 0 {
				t.Errorf("%+v: %v with %d vessels", c, v, n)
			}
			want(t, c, all(whole.CheckAssign(c, v)), all(is || len(c.Parts) == 0, api.OK))
			if is && low < n && n < high {
				some++
			}
		}
	})
	if none < 50 || some < 200 {
		t.Errorf("%d times none, %d times between the least and the greatest number", none, some)
	}
}

// TestLargeNumbers is Assign of as many parts as there can be.
func TestLargeNumbers(t *testing.T) {
	d := newDice(41)
	for range 60 {
		c := oracle.AnyCase(d, 40)
		if c.Limit > 0 {
			c.Limit = 40 - d.IntN(10)
		}
		least, _ := whole.Least(c)
		low, high, ok, e := whole.Numbers(c)
		top := 40
		if c.Limit > 0 {
			top = c.Limit
		}
		if least > top {
			want(t, c, all(low, high, ok, e), all(0, 0, false, api.OK))
		} else {
			want(t, c, all(low, high, ok, e), all(least, top, true, api.OK))
		}
		for n := range 42 {
			v, ok, e := whole.Assign(c, n)
			if e != api.OK || ok != (least <= n && n <= top) || ok && (oracle.NumberOf(v) != n || !oracle.IsReassembly(c, v)) {
				t.Errorf("%+v: %v with %d vessels, %v, error %d", c, v, n, ok, e)
			}
		}
	}
}

// TestCheckAssign is CheckAssign of F9, and F10, with all lists of numbers of small cases.
func TestCheckAssign(t *testing.T) {
	yes := 0
	eachCase(t, 200, 4, func(c api.Case) {
		for _, v := range oracle.Numberings(len(c.Parts)) {
			is := oracle.IsReassembly(c, v)
			if ok, e := whole.CheckAssign(c, v); ok != is || e != api.OK {
				t.Errorf("CheckAssign(%+v, %v): %v, error %d", c, v, ok, e)
			}
			ranges, e := whole.Colours(c, v)
			if !is {
				if len(ranges) > 0 || e != api.ErrArg {
					t.Errorf("Colours(%+v, %v): %v, error %d", c, v, ranges, e)
				}
				continue
			}
			yes++
			var right []api.Range
			for vessel := range oracle.NumberOf(v) {
				s := shades(c, oracle.MembersOf(v, vessel))
				right = append(right, api.Range{Low: slices.Min(s), High: slices.Max(s)})
			}
			want(t, all(c, v), all(ranges, e), all(right, api.OK))
		}
	})
	if yes < 300 {
		t.Errorf("only %d reassemblies", yes)
	}
}

// TestColours is P6.7: the parts of a vessel have all its colours in their spans.
func TestColours(t *testing.T) {
	eachCase(t, 100, 7, func(c api.Case) {
		low, high, ok, _ := whole.Numbers(c)
		for n := low; ok && n <= high; n++ {
			v, _, _ := whole.Assign(c, n)
			ranges, e := whole.Colours(c, v)
			want(t, c, all(len(ranges), e), all(n, api.OK))
			for p, vessel := range v {
				if s, r := c.Parts[p].Span, ranges[vessel]; r.Low > r.High || s.Low > r.Low || r.High > s.High {
					t.Errorf("%+v: the colours %v of the vessel %d of %v", c, r, vessel, v)
				}
			}
		}
	})
}

// TestBars is F11 and P6.4, against the oracle.
func TestBars(t *testing.T) {
	joint, bars, clashes := 0, 0, 0
	eachTwo(t, 2000, 6, func(c api.Case, a, b int) {
		is := slices.ContainsFunc(oracle.Reassemblies(c), func(v []int) bool { return v[a] == v[b] })
		v, ok, e := whole.Joint(c, a, b)
		want(t, all(c, a, b), all(ok, e), all(is, api.OK))
		bar, barred, e := whole.Bar(c, a, b)
		want(t, all(c, a, b), all(barred, e), all(!is, api.OK))
		if is {
			joint++
			if !oracle.IsReassembly(c, v) || v[a] != v[b] || len(bar) > 0 {
				t.Errorf("%+v: %v, with %d and %d of one vessel, and the bar %v", c, v, a, b, bar)
			}
			want(t, c, all(whole.CheckAssign(c, v)), all(true, api.OK))
		} else {
			if !isBar(c, a, b, bar) || len(v) > 0 {
				t.Errorf("%+v: the bar %v of %d and %d, and %v", c, bar, a, b, v)
			}
			want(t, c, all(whole.CheckBar(c, a, b, bar)), all(true, api.OK))
			if len(bar) > 0 {
				bars++
			} else {
				clashes++
			}
		}
	})
	if joint < 4000 || bars < 1000 || clashes < 4000 {
		t.Errorf("%d joint, %d bars, %d clashes", joint, bars, clashes)
	}
}

// TestCheckBar is CheckBar of F11, with all short lists.
func TestCheckBar(t *testing.T) {
	yes, longer := 0, 0
	eachTwo(t, 250, 4, func(c api.Case, a, b int) {
		is := slices.ContainsFunc(oracle.Reassemblies(c), func(v []int) bool { return v[a] == v[b] })
		for length := range 5 {
			for _, l := range oracle.Lists(length, -1, len(c.Parts)) {
				ok := isBar(c, a, b, l)
				if got, e := whole.CheckBar(c, a, b, l); got != ok || e != api.OK || ok && is {
					t.Errorf("CheckBar(%+v, %d, %d, %v): %v, error %d, and of one vessel: %v", c, a, b, l, got, e, is)
				}
				if ok && length > 0 {
					yes++
				}
				if !ok && !oracle.Clash(c, a, b) && c.Limit > 0 && length > c.Limit+1 && isWitness(glued(c, a, b), l) {
					longer++
				}
			}
		}
		for _, l := range [][]int{{math.MinInt, 0}, {0, math.MaxInt}, make([]int, 1000)} {
			want(t, all(c, a, b, l), all(whole.CheckBar(c, a, b, l)), all(false, api.OK))
		}
	})
	if yes < 100 || longer < 5 {
		t.Errorf("%d bars, %d witnesses that are too long", yes, longer)
	}
}

// TestLargeBars has as many parts as there can be.
func TestLargeBars(t *testing.T) {
	c := api.Case{Ware: "bell", Limit: 39, By: 7}
	for i := range 40 {
		c.Parts = append(c.Parts, part(i+1, 0, 1000-i, i < 39))
	}
	v, ok, e := whole.Joint(c, 38, 39)
	if !ok || e != api.OK || !oracle.IsReassembly(c, v) || v[38] != v[39] {
		t.Errorf("Joint: %v, %v, error %d", v, ok, e)
	}
	c.Limit = 38
	l, ok, e := whole.Bar(c, 39, 38)
	if !ok || e != api.OK || len(l) != 39 {
		t.Errorf("Bar: %v, %v, error %d", l, ok, e)
	}
	want(t, "the bar", all(whole.CheckBar(c, 39, 38, l)), all(true, api.OK))
	c.Limit = 1
	l, ok, e = whole.Bar(c, 39, 38)
	want(t, "a short bar", all(len(l), cap(l), ok, e), all(2, 2, true, api.OK))
	want(t, "a bar that is too long", all(whole.CheckBar(c, 39, 38, []int{0, 1, 2})), all(false, api.OK))
}
