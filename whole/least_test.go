package whole_test

import (
	"math"
	"slices"
	"testing"

	"conjoin/api"
	"conjoin/oracle"
	"conjoin/whole"
)

func TestExamplesOfLeast(t *testing.T) {
	c, m := oracle.Limited(), crowded()
	for r, n := range map[api.Range]int{{Low: 10, High: 20}: 2, {Low: 12, High: 13}: 1, {Low: 12, High: 12}: 0, {Low: 10, High: 40}: 3, {Low: 40, High: 10}: 0} {
		want(t, r, all(whole.Demand(m, r)), all(n, api.OK))
	}
	want(t, "least", all(whole.Least(c)), all(2, api.OK))
	want(t, "least of more", all(whole.Least(m)), all(3, api.OK))
	want(t, "least of none", all(whole.Least(api.Case{Ware: "bell", Limit: 1})), all(0, api.OK))
	want(t, "witness", all(whole.Witness(m)), all([]int{0, 2, 4}, api.OK))
	want(t, "witness of none", all(whole.Witness(api.Case{Ware: "bell"})), all([]int{}, api.OK))
	want(t, "show of none", all(whole.Show(api.Case{Ware: "bell"})), all([]api.Range{}, api.OK))
	want(t, "check", all(whole.CheckWitness(m, []int{0, 2, 4})), all(true, api.OK))
	want(t, "check", all(whole.CheckShow(m, []api.Range{{Low: 10, High: 20}, {Low: 25, High: 40}}, 3)), all(true, api.OK))
	want(t, "check", all(whole.CheckShow(c, []api.Range{{Low: 12, High: 14}, {Low: 15, High: 30}}, 2)), all(true, api.OK))
	want(t, "one colour twice", all(whole.CheckShow(c, []api.Range{{Low: 12, High: 14}, {Low: 14, High: 30}}, 2)), all(false, api.OK))
	want(t, "too few", all(whole.CheckShow(c, []api.Range{{Low: 10, High: 40}}, 3)), all(false, api.OK))
	want(t, "critical", all(whole.Critical(c)), all([]int{}, api.OK))
	want(t, "critical of more", all(whole.Critical(m)), all([]int{0, 2, 4}, api.OK))
	// The document's example 6.
	d := api.Case{Ware: "bell", Parts: []api.Part{part(1, 10, 20, false), part(2, 15, 30, false), part(3, 25, 40, false)}}
	want(t, "least", all(whole.Least(d)), all(2, api.OK))
	want(t, "witness", all(whole.Witness(d)), all([]int{0, 2}, api.OK))
}

// TestDemand is F5, against the oracle.
func TestDemand(t *testing.T) {
	far := []int{-1, 0, 1000, 1001, math.MinInt, math.MaxInt}
	seen := map[int]int{}
	eachCase(t, 200, 7, func(c api.Case) {
		numbers := far
		for _, p := range c.Parts {
			numbers = append(numbers, p.Span.Low, p.Span.High, p.Span.Low+1, p.Span.High-1)
		}
		for _, low := range numbers {
			for _, high := range numbers {
				r := api.Range{Low: low, High: high}
				want(t, all(c, r), all(whole.Demand(c, r)), all(demandOf(c, r), api.OK))
				seen[demandOf(c, r)]++
			}
		}
	})
	if seen[1] < 1000 || seen[3] < 100 {
		t.Errorf("demands: %v", seen)
	}
}

// wantLeast holds the least number of vessels, its witness and its show against each other and against the oracle, so that none of them can be greater or less.
func wantLeast(t *testing.T, c api.Case) int {
	t.Helper()
	n, e := whole.Least(c)
	w, err := whole.Witness(c)
	if e != api.OK || err != api.OK || len(w) != n || !isWitness(c, w) {
		t.Errorf("%+v: %d vessels, error %d, with the witness %v, error %d", c, n, e, w, err)
	}
	want(t, c, all(whole.CheckWitness(c, w)), all(true, api.OK))
	s, e := whole.Show(c)
	sum, ok := sumOf(c, s)
	bare := slices.ContainsFunc(s, func(r api.Range) bool { return demandOf(c, r) == 0 })
	if e != api.OK || !ok || sum != n || bare {
		t.Errorf("%+v: %d vessels, with the show %v, error %d", c, n, s, e)
	}
	want(t, c, all(whole.CheckShow(c, s, n)), all(true, api.OK))
	want(t, c, all(whole.CheckShow(c, s, n+1)), all(false, api.OK))
	v, ok, e := whole.Assign(oracle.Unlimited(c), n)
	if !ok || e != api.OK || oracle.NumberOf(v) != n || !oracle.IsReassembly(oracle.Unlimited(c), v) {
		t.Errorf("%+v: %d vessels, with the reassembly %v, %v, error %d", c, n, v, ok, e)
	}
	return n
}

// TestLeast is F6 to F8, and P6.2 and P6.9, against the oracle.
func TestLeast(t *testing.T) {
	seen := map[int]int{}
	d := newDice(9)
	eachCase(t, 800, 7, func(c api.Case) {
		n := wantLeast(t, c)
		want(t, c, all(n, n), all(leastOf(c), len(witnesses(c)[0])))
		seen[n]++
		if len(c.Parts) < 6 {
			want(t, c, all(n), all(greatestShow(c, 0)))
		}
		var critical []int
		for a := range c.Parts {
			if leastOf(without(c, a)) < n {
				critical = append(critical, a)
			}
		}
		want(t, c, all(whole.Critical(c)), all(critical, api.OK))
		low, high, ok, _ := whole.Numbers(c)
		order := c
		order.Parts = slices.Clone(c.Parts)
		d.Shuffle(len(c.Parts), func(i, j int) { order.Parts[i], order.Parts[j] = order.Parts[j], order.Parts[i] })
		want(t, order, all(whole.Least(order)), all(n, api.OK))
		want(t, order, all(whole.Numbers(order)), all(low, high, ok, api.OK))
	})
	for n := range 7 {
		if seen[n] < 20 {
			t.Errorf("only %d times %d vessels: %v", seen[n], n, seen)
		}
	}
}

// TestLargeLeast has so many parts that only a witness and a reassembly can tell.
func TestLargeLeast(t *testing.T) {
	d := newDice(40)
	seen := map[int]int{}
	for range 1500 {
		c := oracle.AnyCase(d, 10+d.IntN(31))
		seen[wantLeast(t, c)/10]++
	}
	if seen[0] < 100 || seen[1] < 100 || seen[2] < 50 || seen[3] < 20 {
		t.Errorf("tens of vessels: %v", seen)
	}
	for name, x := range map[string]struct {
		least int
		part  func(i int) api.Part
	}{
		"as one":           {1, func(i int) api.Part { return part(i+1, 0, 1000, false) }},
		"one foot":         {1, func(i int) api.Part { return part(i+1, i, 1000-i, i == 20) }},
		"all feet":         {40, func(i int) api.Part { return part(i+1, i, 1000-i, true) }},
		"half the feet":    {20, func(i int) api.Part { return part(i+1, 7, 7, i%2 == 0) }},
		"side by side":     {40, func(i int) api.Part { return part(i+1, 25*i, 25*i+24, false) }},
		"a row":            {20, func(i int) api.Part { return part(i+1, 25*i, 25*i+25, false) }},
		"a row of feet":    {40, func(i int) api.Part { return part(i+1, 25*i, 25*i+25, true) }},
		"feet that wait":   {30, func(i int) api.Part { return part(i+1, i/4, 500+i, i%4 > 0) }},
		"feet with others": {20, func(i int) api.Part { return part(i+1, 50*(i/2), 50*(i/2)+49, i%2 == 0) }},
	} {
		c := api.Case{Ware: "bell"}
		for i := range 40 {
			c.Parts = append(c.Parts, x.part(i))
		}
		want(t, name, all(wantLeast(t, c)), all(x.least))
	}
}

// TestCheckWitness is CheckWitness of F6, with all short lists.
func TestCheckWitness(t *testing.T) {
	yes := 0
	eachCase(t, 60, 5, func(c api.Case) {
		for length := range 5 {
			for _, l := range oracle.Lists(length, -1, len(c.Parts)) {
				is := isWitness(c, l)
				want(t, all(c, l), all(whole.CheckWitness(c, l)), all(is, api.OK))
				if is && length > 1 {
					yes++
				}
			}
		}
		for _, l := range [][]int{{math.MinInt, 0}, {0, math.MaxInt}, {math.MaxInt}, {math.MinInt}, make([]int, 1000)} {
			want(t, all(c, l), all(whole.CheckWitness(c, l)), all(false, api.OK))
		}
	})
	if yes < 200 {
		t.Errorf("only %d witnesses", yes)
	}
}

// TestCheckShow is CheckShow of F7, with shows, and with lists that are none.
func TestCheckShow(t *testing.T) {
	d := newDice(7)
	yes, no := 0, 0
	check := func(c api.Case, s []api.Range) {
		sum, ok := sumOf(c, s)
		for _, n := range []int{sum - 1, sum, sum + 1, 0, math.MinInt, math.MaxInt} {
			want(t, all(c, s, n), all(whole.CheckShow(c, s, n)), all(ok && sum >= n, api.OK))
		}
		if ok && sum > 0 {
			yes++
		} else if !ok {
			no++
		}
	}
	eachCase(t, 400, 7, func(c api.Case) {
		check(c, nil)
		if len(c.Parts) == 0 {
			return
		}
		for range 20 {
			var s []api.Range
			for range 1 + d.IntN(3) {
				p, q := c.Parts[d.IntN(len(c.Parts))], c.Parts[d.IntN(len(c.Parts))]
				s = append(s, api.Range{Low: p.Span.Low - d.IntN(2), High: q.Span.High + d.IntN(2)})
			}
			slices.SortFunc(s, func(r, s api.Range) int { return r.Low - s.Low })
			check(c, s)
		}
	})
	if yes < 1000 || no < 1000 {
		t.Errorf("%d shows, %d lists that are none", yes, no)
	}
	c := api.Case{Ware: "bell", Parts: []api.Part{part(1, 0, 0, false), part(2, 1000, 1000, true), part(3, 999, 1000, true)}}
	for _, s := range [][]api.Range{
		{{Low: 0, High: 0}, {Low: 1, High: 1000}}, {{Low: -1, High: 0}}, {{Low: 999, High: 1001}}, {{Low: 0, High: 0}, {Low: 0, High: 0}}, {{Low: 1, High: 0}}, {{Low: 0, High: 1000}}, {{Low: 5, High: 7}, {Low: 8, High: 8}, {Low: 999, High: 1000}},
		{{Low: 999, High: 1000}, {Low: 0, High: 0}}, {{Low: math.MinInt, High: math.MaxInt}}, {{Low: math.MaxInt, High: math.MinInt}}, {{Low: 0, High: math.MaxInt}, {Low: math.MinInt, High: 3}}, make([]api.Range, 2000),
	} {
		check(c, s)
	}
}
