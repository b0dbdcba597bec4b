package sure_test

import (
	"slices"
	"testing"

	"conjoin/api"
	"conjoin/oracle"
	"conjoin/sure"
)

func TestExamplesOfReassemblies(t *testing.T) {
	c, u := limited(), unlimited()
	want(t, "first", all(sure.First(c)), all([]int{0, 1, 1, 0}, true, api.OK))
	want(t, "one", all(sure.Count(c)), all(1, api.OK))
	want(t, "without a limit", all(sure.Count(u)), all(5, api.OK))
	want(t, "apart", all(sure.With(u, 0, 3, false)), all([]int{0, 0, 1, 2}, true, api.OK))
	want(t, "none", all(sure.First(tight())), all([]int{}, false, api.OK))
	want(t, "how many", all(sure.Count(tight())), all(0, api.OK))
	want(t, "of no parts", all(sure.First(api.Case{Ware: "bell"})), all([]int{}, true, api.OK))
	want(t, "how many", all(sure.Count(api.Case{Ware: "bell", Limit: 1})), all(1, api.OK))
	want(t, "a part with itself", all(sure.With(u, 2, 2, true)), all([]int{0, 0, 1, 2}, true, api.OK))
	want(t, "a part without itself", all(sure.With(u, 2, 2, false)), all([]int{}, false, api.OK))
	want(t, "all of them", all(sure.Count(row(8))), all(4140, api.OK))
	for limit, n := range []int{4140, 1, 128, 1094, 2795, 3845, 4111, 4139, 4140, 4140} {
		c := row(8)
		c.Limit = limit
		want(t, limit, all(sure.Count(c)), all(n, api.OK))
	}
}

// TestReassemblies is First, Count and With of S2 and S3, against the oracle.
func TestReassemblies(t *testing.T) {
	none, with, without := 0, 0, 0
	eachCase(t, 500, 6, func(c api.Case) {
		l := oracle.Reassemblies(c)
		want(t, c, all(sure.Count(c)), all(len(l), api.OK))
		if len(l) == 0 {
			none++
			want(t, c, all(sure.First(c)), all([]int{}, false, api.OK))
		} else {
			want(t, c, all(sure.First(c)), all(slices.MinFunc(l, slices.Compare), true, api.OK))
		}
		for a := range c.Parts {
			for b := range c.Parts {
				for _, together := range []bool{false, true} {
					l := having(c, a, b, together)
					if len(l) == 0 {
						without++
						want(t, all(c, a, b, together), all(sure.With(c, a, b, together)), all([]int{}, false, api.OK))
					} else {
						with++
						want(t, all(c, a, b, together), all(sure.With(c, a, b, together)), all(slices.MinFunc(l, slices.Compare), true, api.OK))
					}
				}
			}
		}
	})
	if none < 50 || with < 4000 || without < 4000 {
		t.Errorf("%d times none; %d with, %d without", none, with, without)
	}
}

// TestFits is Fits of S2, with all lists of numbers of small cases.
func TestFits(t *testing.T) {
	yes, no := 0, 0
	eachCase(t, 200, 4, func(c api.Case) {
		for _, v := range oracle.Numberings(len(c.Parts)) {
			is := oracle.IsReassembly(c, v)
			want(t, all(c, v), all(sure.Fits(c, v)), all(is, api.OK))
			if is {
				yes++
			} else {
				no++
			}
		}
	})
	if yes < 300 || no < 3000 {
		t.Errorf("%d reassemblies, %d that are none", yes, no)
	}
}

// TestLargeFits is Fits of as many parts as there can be.
func TestLargeFits(t *testing.T) {
	d := newDice(8)
	for range 300 {
		c := oracle.AnyCase(d, 8)
		l := oracle.Reassemblies(c)
		for range 30 {
			v := make([]int, 8)
			if len(l) > 0 && d.IntN(3) > 0 {
				v = slices.Clone(l[d.IntN(len(l))])
				want(t, all(c, v), all(sure.Fits(c, v)), all(true, api.OK))
			}
			v[d.IntN(8)] = d.IntN(10) - 1
			want(t, all(c, v), all(sure.Fits(c, v)), all(oracle.IsReassembly(c, v), api.OK))
		}
	}
}
