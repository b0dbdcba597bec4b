package whole_test

import (
	"math"
	"slices"
	"testing"

	"conjoin/api"
	"conjoin/oracle"
	"conjoin/whole"
)

func TestExamplesOfChanges(t *testing.T) {
	c := oracle.Limited()
	m, e := whole.Merge(c, 3, 0)
	one := api.Part{Sherds: []int{101, 104}, Span: api.Span{Low: 12, High: 14, LowBy: 7, HighBy: 8}, Foot: true, FootBy: 11}
	want(t, "merged", all(m, e), all(api.Case{Ware: "bell", Limit: 2, By: 20, Parts: []api.Part{one, c.Parts[1], c.Parts[2]}}, api.OK))
	want(t, "the other way round", all(whole.Merge(c, 0, 3)), all(m, api.OK))
	want(t, "clash", all(whole.Merge(c, 0, 2)), all(api.Case{}, api.ErrClash))
	want(t, "without", all(whole.Without(c, 1)), all(api.Case{Ware: "bell", Limit: 2, By: 20, Parts: []api.Part{c.Parts[0], c.Parts[2], c.Parts[3]}}, api.OK))
	want(t, "another limit", all(whole.Limited(c, 40, 0)), all(api.Case{Ware: "bell", Limit: 40, Parts: c.Parts}, api.OK))
	want(t, "no limit", all(whole.Limited(c, 0, 0)), all(api.Case{Ware: "bell", Parts: c.Parts}, api.OK))
	want(t, "the last one left out", all(whole.Without(api.Case{Ware: "bell", Parts: c.Parts[:1]}, 0)), all(api.Case{Ware: "bell"}, api.OK))
}

// TestLimited is Limited of F4.
func TestLimited(t *testing.T) {
	numbers := []int{0, 1, 2, 39, 40, 41, 1000000, 1000001, -1, math.MinInt, math.MaxInt}
	for _, limit := range numbers {
		for _, by := range numbers {
			isLimit, isId := limit >= 0 && limit <= 40, by >= 0 && by <= 1000000
			for _, c := range []api.Case{oracle.Limited(), crowded(), {Ware: "bell"}} {
				d := api.Case{Ware: c.Ware, Limit: limit, By: by, Parts: c.Parts}
				if isLimit && isId && (limit > 0 || by == 0) {
					want(t, d, all(whole.Limited(c, limit, by)), all(d, api.OK))
				} else {
					want(t, d, all(whole.Limited(c, limit, by)), all(api.Case{}, api.ErrArg))
				}
			}
		}
	}
}

// TestLimitedNoCase is that what is no case is none with another limit either.
func TestLimitedNoCase(t *testing.T) {
	for _, x := range [][2]int{{41, 0}, {-1, 0}, {2, -1}, {2, 1000001}, {0, 3}} {
		c := oracle.Limited()
		c.Limit, c.By = x[0], x[1]
		want(t, x, all(whole.Limited(c, 2, 20)), all(api.Case{}, api.ErrArg))
	}
}

// TestEnds is that an end comes from the part that has it, and from that of the lesser index if both have it.
func TestEnds(t *testing.T) {
	c := api.Case{Ware: "bell", Parts: []api.Part{
		{Sherds: []int{4, 9}, Span: api.Span{Low: 5, High: 9, LowBy: 1, HighBy: 2}, Rests: []int{3, 8}},
		{Sherds: []int{5}, Span: api.Span{Low: 5, High: 9, LowBy: 3, HighBy: 4}, Rests: []int{2, 3, 10}, Foot: true, FootBy: 7},
		{Sherds: []int{3, 10}, Span: api.Span{Low: 5, High: 9}},
		{Sherds: []int{1}, Span: api.Span{Low: 6, High: 8, LowBy: 5, HighBy: 6}, Foot: true},
		{Sherds: []int{2}, Span: api.Span{Low: 6, High: 10, LowBy: 8, HighBy: 9}},
		{Sherds: []int{6}, Span: api.Span{Low: 0, High: 1000}},
		{Sherds: []int{7}, Span: api.Span{Low: 0, High: 1000}},
	}}
	for _, x := range []struct {
		a, b int
		want api.Part
	}{
		{0, 1, api.Part{Sherds: []int{4, 5, 9}, Span: api.Span{Low: 5, High: 9, LowBy: 1, HighBy: 2}, Rests: []int{2, 3, 8, 10}, Foot: true, FootBy: 7}},
		{1, 2, api.Part{Sherds: []int{3, 5, 10}, Span: api.Span{Low: 5, High: 9, LowBy: 3, HighBy: 4}, Rests: []int{2, 3, 10}, Foot: true, FootBy: 7}},
		{0, 2, api.Part{Sherds: []int{3, 4, 9, 10}, Span: api.Span{Low: 5, High: 9, LowBy: 1, HighBy: 2}, Rests: []int{3, 8}}},
		{0, 3, api.Part{Sherds: []int{1, 4, 9}, Span: api.Span{Low: 6, High: 8, LowBy: 5, HighBy: 6}, Rests: []int{3, 8}, Foot: true}},
		{0, 4, api.Part{Sherds: []int{2, 4, 9}, Span: api.Span{Low: 6, High: 9, LowBy: 8, HighBy: 2}, Rests: []int{3, 8}}},
		{3, 4, api.Part{Sherds: []int{1, 2}, Span: api.Span{Low: 6, High: 8, LowBy: 5, HighBy: 6}, Foot: true}},
		{5, 6, api.Part{Sherds: []int{6, 7}, Span: api.Span{High: 1000}}},
		{4, 6, api.Part{Sherds: []int{2, 7}, Span: api.Span{Low: 6, High: 10, LowBy: 8, HighBy: 9}}},
	} {
		for _, two := range [][2]int{{x.a, x.b}, {x.b, x.a}} {
			d, e := whole.Merge(c, two[0], two[1])
			if e != api.OK || len(d.Parts) != 6 {
				t.Fatalf("Merge(%v): %v, error %d", two, d, e)
			}
			want(t, two, all(d.Parts[x.a]), all(x.want))
		}
	}
	want(t, "two feet", all(whole.Merge(c, 3, 1)), all(api.Case{}, api.ErrClash))
}

// TestTooMuch is that merged parts have 40 sherds and 200 records at most, and that a clash comes before that.
func TestTooMuch(t *testing.T) {
	big := func(from, sherds, rest, rests int) api.Part {
		p := part(1, 3, 5, false)
		p.Sherds = nil
		for i := range sherds {
			p.Sherds = append(p.Sherds, from+i)
		}
		for i := range rests {
			p.Rests = append(p.Rests, rest+i)
		}
		return p
	}
	for _, x := range []struct {
		p, q api.Part
		want api.Errno
	}{
		{big(1, 30, 1, 0), big(101, 10, 1, 0), api.OK},
		{big(1, 30, 1, 0), big(101, 11, 1, 0), api.ErrLimit},
		{big(1, 40, 1, 0), big(101, 40, 1, 0), api.ErrLimit},
		{big(1, 3, 1, 100), big(101, 3, 101, 100), api.OK},
		{big(1, 3, 1, 100), big(101, 3, 101, 101), api.ErrLimit},
		{big(1, 3, 1, 200), big(101, 3, 1, 200), api.OK},
		{big(1, 3, 2, 200), big(101, 3, 1, 200), api.ErrLimit},
		{big(1, 40, 1, 200), big(101, 40, 201, 200), api.ErrLimit},
	} {
		c := api.Case{Ware: "bell", Limit: 1, Parts: []api.Part{part(200, 4, 4, false), x.p, x.q}}
		m, e := whole.Merge(c, 1, 2)
		if e != x.want || e == api.OK && (whole.CheckCase(m) != api.OK || len(m.Parts) != 2) {
			t.Errorf("%v and %v: %v, error %d", x.p, x.q, m, e)
		}
		// Only spans and feet matter here, however much there is.
		want(t, "joint", all(whole.Joint(c, 2, 1)), all([]int{0, 0, 0}, true, api.OK))
		want(t, "no bar", all(whole.Bar(c, 1, 2)), all([]int{}, false, api.OK))
		c.Parts[0].Span = api.Span{Low: 6, High: 7}
		want(t, "not joint", all(whole.Joint(c, 2, 1)), all([]int{}, false, api.OK))
		want(t, "bar", all(whole.Bar(c, 1, 2)), all([]int{0, 1}, true, api.OK))
		want(t, "check", all(whole.CheckBar(c, 1, 2, []int{0, 1})), all(true, api.OK))
		c.Parts[1].Span = api.Span{Low: 6, High: 7}
		want(t, "a clash first", all(whole.Merge(c, 2, 1)), all(api.Case{}, api.ErrClash))
	}
}

// TestChanges is F4, against the oracle.
func TestChanges(t *testing.T) {
	merges := 0
	eachCase(t, 60, 5, func(c api.Case) {
		for a := range c.Parts {
			want(t, c, all(whole.Without(c, a)), all(without(c, a), api.OK))
			for b := range c.Parts {
				switch {
				case a == b:
					want(t, c, all(whole.Merge(c, a, b)), all(api.Case{}, api.ErrArg))
				case oracle.Clash(c, a, b):
					want(t, c, all(whole.Merge(c, a, b)), all(api.Case{}, api.ErrClash))
				default:
					merges++
					m, e := whole.Merge(c, a, b)
					want(t, c, all(m, e, whole.CheckCase(m)), all(glued(c, a, b), api.OK, api.OK))
				}
			}
		}
	})
	if merges < 100 {
		t.Errorf("only %d merges", merges)
	}
}

// TestFewerParts is P6.5.
func TestFewerParts(t *testing.T) {
	same, less := 0, 0
	eachCase(t, 300, 7, func(c api.Case) {
		n, _ := whole.Least(c)
		greatest := witnesses(c)
		for a := range c.Parts {
			d, _ := whole.Without(c, a)
			m, e := whole.Least(d)
			isInAll := !slices.ContainsFunc(greatest, func(w []int) bool { return !slices.Contains(w, a) })
			if isInAll {
				want(t, c, all(m, e), all(n-1, api.OK))
				less++
			} else {
				want(t, c, all(m, e), all(n, api.OK))
				same++
			}
		}
	})
	if same < 300 || less < 200 {
		t.Errorf("%d times the same, %d times less", same, less)
	}
}

// TestMerged is P6.6.
func TestMerged(t *testing.T) {
	same, more := 0, 0
	eachTwo(t, 2000, 6, func(c api.Case, a, b int) {
		m, e := whole.Merge(c, a, b)
		if e == api.ErrClash {
			return
		}
		n, _ := whole.Least(c)
		k, e := whole.Least(m)
		if e != api.OK || k != n && k != n+1 {
			t.Errorf("%+v: %d, with %d and %d merged %d, error %d", c, n, a, b, k, e)
		}
		if k == n {
			same++
		} else {
			more++
		}
		var together [][]int
		for _, v := range oracle.Reassemblies(m) {
			v = slices.Insert(v, max(a, b), v[min(a, b)])
			if ok, e := whole.CheckAssign(c, v); !ok || e != api.OK {
				t.Errorf("%+v: %v is none, error %d", c, v, e)
			}
			together = append(together, v)
		}
		of := slices.DeleteFunc(oracle.Reassemblies(c), func(v []int) bool { return v[a] != v[b] })
		want(t, c, all(len(together)), all(len(of)))
	})
	if same < 2000 || more < 200 {
		t.Errorf("%d times as many vessels, %d times one more", same, more)
	}
}
