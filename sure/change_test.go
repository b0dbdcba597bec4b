package sure_test

import (
	"math"
	"slices"
	"testing"

	"conjoin/api"
	"conjoin/oracle"
	"conjoin/sure"
)

func TestExamplesOfChanges(t *testing.T) {
	c, u := limited(), unlimited()
	want(t, "the limit left out", all(sure.Without(c, 20)), all(u, api.OK))
	footless := limited()
	footless.Parts[0].Foot, footless.Parts[0].FootBy = false, 0
	want(t, "a foot left out", all(sure.Without(c, 11)), all(footless, api.OK))
	wide := limited()
	wide.Parts[1].Span = api.Span{High: 30, HighBy: 4}
	want(t, "a Low left out", all(sure.Without(c, 3)), all(wide, api.OK))
	wide.Parts[1].Span = api.Span{Low: 15, High: 1000, LowBy: 3}
	want(t, "a High left out", all(sure.Without(c, 4)), all(wide, api.OK))
	want(t, "not there", all(sure.Without(c, 999)), all(c, api.OK))
	for _, id := range []int{-1, 1000001, math.MinInt, math.MaxInt} {
		want(t, "no Id", all(sure.Without(c, id)), all(c, api.OK))
	}
	want(t, "0", all(sure.Without(c, 0)), all(api.Case{}, api.ErrArg))
	want(t, "none left out", all(sure.Only(c, []int{12, 1, 2, 3, 4, 5, 6, 7, 8, 11, 20, 20, -1, 0, math.MinInt, math.MaxInt})), all(c, api.OK))
	bare := api.Case{Ware: "bell"}
	for i := range 4 {
		bare.Parts = append(bare.Parts, api.Part{Sherds: []int{101 + i}, Span: api.Span{High: 1000}})
	}
	want(t, "all left out", all(sure.Only(c, nil)), all(bare, api.OK))
	full := api.Case{Ware: "bell", Limit: 2, By: 4, Parts: []api.Part{{Sherds: []int{7}, Span: api.Span{Low: 10, High: 20, LowBy: 1, HighBy: 2}, Foot: true, FootBy: 3}}}
	for _, ids := range [][]int{nil, {1}, {2}, {3}, {4}, {1, 2, 3}, {2, 3, 4}} {
		want(t, ids, all(sure.Only(full, ids)), all(only(full, ids), api.OK))
	}
	want(t, "lineage", all(sure.Lineage(c, 0, 2)), all([]int{2, 5}, api.OK))
	want(t, "lineage of an open pair", all(sure.Lineage(u, 0, 1)), all([]int{}, api.OK))
	want(t, "lineage of one part", all(sure.Lineage(c, 1, 1)), all([]int{}, api.OK))
	for _, x := range []struct {
		low, high int
		want      api.Span
	}{
		{16, 40, api.Span{Low: 16, High: 30, LowBy: 50, HighBy: 4}}, {15, 30, api.Span{Low: 15, High: 30, LowBy: 3, HighBy: 4}}, {0, 1000, api.Span{Low: 15, High: 30, LowBy: 3, HighBy: 4}},
		{14, 29, api.Span{Low: 15, High: 29, LowBy: 3, HighBy: 50}}, {20, 20, api.Span{Low: 20, High: 20, LowBy: 50, HighBy: 50}}, {30, 30, api.Span{Low: 30, High: 30, LowBy: 50, HighBy: 4}},
	} {
		narrow := unlimited()
		narrow.Parts[1].Span = x.want
		want(t, x, all(sure.Narrow(u, 1, x.low, x.high, 50)), all(narrow, api.OK))
	}
	n, _ := sure.Narrow(u, 1, 16, 40, 30)
	want(t, "none reached", all(sure.Reached(u, n)), all([]api.Pair{}, api.OK))
	n, _ = sure.Narrow(u, 1, 21, 40, 30)
	want(t, "reached", all(sure.Reached(u, n)), all([]api.Pair{{A: 0, B: 1}}, api.OK))
	want(t, "the limit", all(sure.Reached(c, u)), all([]api.Pair{{A: 0, B: 1}, {A: 0, B: 3}, {A: 1, B: 2}}, api.OK))
}

// TestNarrowErrors is the errors of Narrow.
func TestNarrowErrors(t *testing.T) {
	for _, x := range []struct {
		part, low, high, id int
		want                api.Errno
	}{
		{1, 0, 1000, 1, api.OK}, {1, 0, 1000, 1000000, api.OK}, {0, 0, 10, 5, api.OK}, {0, 20, 1000, 5, api.OK},
		{4, 0, 1000, 1, api.ErrArg}, {-1, 0, 1000, 1, api.ErrArg}, {math.MaxInt, 0, 1000, 1, api.ErrArg},
		{1, -1, 1000, 1, api.ErrArg}, {1, 0, 1001, 1, api.ErrArg}, {1, 20, 19, 1, api.ErrArg}, {1, math.MinInt, math.MaxInt, 1, api.ErrArg},
		{1, 0, 1000, 0, api.ErrArg}, {1, 0, 1000, -1, api.ErrArg}, {1, 0, 1000, 1000001, api.ErrArg},
		{1, 31, 40, 1, api.ErrNone}, {1, 31, 1000, 1, api.ErrNone}, {1, 0, 14, 1, api.ErrNone}, {1, 3, 14, 1, api.ErrNone},
		{1, 31, 30, 1, api.ErrArg}, {1, 31, 40, 0, api.ErrArg}, {5, 31, 40, 1, api.ErrArg},
	} {
		for _, c := range []api.Case{limited(), tight()} {
			n, e := sure.Narrow(c, x.part, x.low, x.high, x.id)
			want(t, x, all(e), all(x.want))
			if e != api.OK {
				want(t, x, all(n), all(api.Case{}))
			} else {
				want(t, x, all(sure.CheckCase(n)), all(api.OK))
			}
		}
	}
	_, e := sure.Narrow(row(9), 20, 31, 30, 0)
	want(t, "too many parts", all(e), all(api.ErrLarge))
}

// TestWithout is S8, against the oracle, also where one record says several things.
func TestWithout(t *testing.T) {
	d := newDice(31)
	several := 0
	eachCase(t, 400, 8, func(c api.Case) {
		ids := idsOf(c)
		for _, id := range ids {
			rest := slices.DeleteFunc(slices.Clone(ids), func(x int) bool { return x == id })
			want(t, all(c, id), all(sure.Without(c, id)), all(only(c, rest), api.OK))
			if n := len(idsOf(only(c, []int{id}))); n != 1 {
				t.Errorf("%+v: %d Ids", c, n)
			}
		}
		if len(ids) < 4 {
			return
		}
		for range 5 {
			some := []int{ids[d.IntN(len(ids))], ids[d.IntN(len(ids))], d.IntN(60), ids[d.IntN(len(ids))], -3}
			o, e := sure.Only(c, some)
			want(t, all(c, some), all(o, e, sure.CheckCase(o)), all(only(c, some), api.OK, api.OK))
		}
		said := 1
		for _, p := range c.Parts {
			said += 2
			if p.FootBy != 0 {
				said++
			}
		}
		if len(ids) < said-4 {
			several++
		}
	})
	if several < 50 {
		t.Errorf("only %d times records that say several things", several)
	}
}

// lineageOf is the Ids that an answer rests on, by the chapter's words.
func lineageOf(c api.Case, a, b int) []int {
	if answerOf(c, a, b) == api.SureOpen {
		return nil
	}
	kept := idsOf(c)
	for _, id := range slices.Backward(idsOf(c)) {
		less := slices.DeleteFunc(slices.Clone(kept), func(x int) bool { return x == id })
		if answerOf(only(c, less), a, b) == answerOf(c, a, b) {
			kept = less
		}
	}
	return kept
}

// TestLineage is S9, and P7.5 of it.
func TestLineage(t *testing.T) {
	together, apart, long := 0, 0, 0
	eachTwo(t, 250, 6, func(c api.Case, a, b int) {
		answer, e := sure.Answer(c, a, b)
		if e != api.OK {
			return
		}
		ids, e := sure.Lineage(c, a, b)
		want(t, all(c, a, b), all(ids, e), all(lineageOf(c, a, b), api.OK))
		o, _ := sure.Only(c, ids)
		if answer != api.SureOpen {
			want(t, all(c, a, b), all(sure.Answer(o, a, b)), all(answer, api.OK))
		}
		for _, id := range ids {
			less, _ := sure.Without(o, id)
			want(t, all(c, a, b, id), all(sure.Answer(less, a, b)), all(api.SureOpen, api.OK))
		}
		switch {
		case len(ids) > 0 && answer == api.SureTogether:
			together++
		case len(ids) > 0 && answer == api.SureApart:
			apart++
		}
		if len(ids) > 3 {
			long++
		}
	})
	if together < 30 || apart < 500 || long < 50 {
		t.Errorf("%d together, %d apart; %d long", together, apart, long)
	}
}

// TestFewerIds is P7.6 of Without: no open pair becomes certain.
func TestFewerIds(t *testing.T) {
	opened := 0
	eachCase(t, 300, 6, func(c api.Case) {
		before, e := sure.Answers(c)
		if e != api.OK {
			return
		}
		for _, id := range idsOf(c) {
			less, _ := sure.Without(c, id)
			after, e := sure.Answers(less)
			want(t, all(c, id), all(e), all(api.OK))
			for _, p := range twoOf(c) {
				x, y := before[p.A][p.B], after[p.A][p.B]
				if y != x && y != api.SureOpen {
					t.Errorf("%+v without %d: %v has the answer %d, and then %d", c, id, p, x, y)
				}
				if y != x {
					opened++
				}
			}
		}
	})
	if opened < 500 {
		t.Errorf("only %d pairs opened", opened)
	}
}

// TestMeasurements is P7.6 of Narrow and of limits, and Reached of S10.
func TestMeasurements(t *testing.T) {
	d := newDice(33)
	closed, none := 0, 0
	eachCase(t, 4000, 6, func(c api.Case) {
		before, e := sure.Answers(c)
		if e != api.OK || len(c.Parts) == 0 {
			return
		}
		part := d.IntN(len(c.Parts))
		s := c.Parts[part].Span
		low := min(s.Low+d.IntN(4), s.High)
		less := c
		if d.IntN(2) == 0 {
			less, e = sure.Narrow(c, part, low, low+d.IntN(1000-low+1), 60)
			want(t, c, all(e), all(api.OK))
		} else if less.Limit = 1 + d.IntN(len(c.Parts)); c.Limit > 0 {
			less.Limit = 1 + d.IntN(c.Limit)
		}
		after, e := sure.Answers(less)
		reached, f := sure.Reached(c, less)
		back, g := sure.Reached(less, c)
		want(t, all(c, less), all(f, g, back), all(e, e, reached))
		if e != api.OK {
			none++
			return
		}
		var right []api.Pair
		for _, p := range twoOf(c) {
			x, y := before[p.A][p.B], after[p.A][p.B]
			if x != y {
				right = append(right, p)
				closed++
			}
			if x != y && x != api.SureOpen {
				t.Errorf("%+v and %+v: %v has the answer %d, and then %d", c, less, p, x, y)
			}
		}
		want(t, all(c, less), all(reached), all(right))
	})
	if closed < 200 || none < 50 {
		t.Errorf("%d pairs closed, %d times no reassembly", closed, none)
	}
}

// TestReached is Reached of S10, of any two cases.
func TestReached(t *testing.T) {
	d := newDice(34)
	some := 0
	for range 500 {
		n := d.IntN(7)
		c, e := oracle.AnyCase(d, n), oracle.AnyCase(d, n)
		if len(oracle.Reassemblies(c)) == 0 || len(oracle.Reassemblies(e)) == 0 {
			want(t, all(c, e), all(sure.Reached(c, e)), all([]api.Pair{}, api.ErrWhole))
			continue
		}
		var right []api.Pair
		for _, p := range twoOf(c) {
			if answerOf(c, p.A, p.B) != answerOf(e, p.A, p.B) {
				right = append(right, p)
				some++
			}
		}
		want(t, all(c, e), all(sure.Reached(c, e)), all(right, api.OK))
	}
	if some < 500 {
		t.Errorf("only %d pairs reached", some)
	}
}
