package sure_test

import (
	"math"
	"slices"
	"testing"

	"conjoin/api"
	"conjoin/oracle"
	"conjoin/sure"
)

// branches are those with a string.
func branches(t *testing.T, s string) []api.Branch {
	t.Helper()
	r, e := sure.ReadRefute(s)
	if e != api.OK {
		t.Fatalf("ReadRefute(%q): error %d", s, e)
	}
	return r
}

func TestExamplesOfRefutations(t *testing.T) {
	c := limited()
	for _, x := range []struct {
		c        api.Case
		a, b     int
		together bool
		s        string
		is       bool
	}{
		{c, 0, 3, false, "0+2+3", true},
		{c, 3, 0, false, "0+2+3", true},
		{c, 0, 1, true, "2/1 1#2 1+2+3", false},
		{c, 0, 1, true, "2/1 0=2 1+2+3", true},
		{c, 0, 1, true, "2/1 0=2", false},
		{c, 0, 1, true, "2/1", false},
		{c, 0, 1, true, "", false},
		{c, 0, 1, true, "2/1 0=2 1+2+3 1+2+3", false},
		{c, 0, 1, true, "2/2 0=2 1+2+3", false},
		{c, 0, 1, true, "2/1 1+2+3 0=2", false},
		{c, 1, 3, true, "1=3", true},
		{c, 1, 3, true, "3=1", true},
		{c, 1, 3, false, "1=3", false},
		{c, 1, 1, false, "1#1", true},
		{c, 1, 1, true, "1#1", false},
		{c, 1, 1, false, "2#2", false},
		{c, 1, 2, false, "1/2 1#2 1+2+3", true},
		{c, 1, 2, false, "1/2 2#1 1+2+3", true},
		{c, 1, 2, false, "0/3 0+1+2 0+2+3", true},
		{c, 1, 2, false, "0/3 0+1+2 0+1+2", false},
		{c, 0, 3, false, "0+2", false},
		{c, 0, 3, false, "0+2+2", false},
		{c, 0, 3, false, "2+0+3", false},
		{c, 0, 3, false, "0+1+2+3", false},
		// Many may have two parts of one class, if this has two that clash, or are decided as apart.
		{c, 0, 2, true, "0+2+3", true},
		{c, 0, 2, true, "0+1+2", false},
		{c, 1, 2, true, "1+2+3", false},
		{c, 1, 1, false, "1/2 1+2+3 1+2+3", true},
		{c, 1, 1, false, "1/0 0+1+2 1#1", true},
		{c, 1, 1, false, "1/0 0+1+2 1+2+3", false},
		{house(), 0, 4, false, "0+1+2", false},
		{house(), 0, 4, false, "2/0 0+3+4 0+1+2", true},
		{house(), 0, 4, false, "2/0 0+1+2 0+3+4", false},
		{unlimited(), 0, 3, false, "0+2+3", false},
		{unlimited(), 0, 3, false, "0+2", false},
		{unlimited(), 0, 2, true, "0=2", true},
	} {
		want(t, x, all(sure.CheckRefute(x.c, x.a, x.b, x.together, branches(t, x.s))), all(x.is, api.OK))
	}
	want(t, "no refutation", all(sure.Refute(c, 0, 3, true)), all([]api.Branch{}, false, api.OK))
	want(t, "not none", all(sure.None(c)), all([]api.Branch{}, false, api.OK))
	for s, is := range map[string]bool{"0+2": true, "1+3": true, "0+1": false, "0=2": false, "0/2 0=2 0+2": true, "0/2 0=2 0#2": false, "": false} {
		want(t, s, all(sure.CheckNone(tight(), branches(t, s))), all(is, api.OK))
		want(t, s, all(sure.CheckNone(c, branches(t, s))), all(false, api.OK))
	}
}

// TestOneOfTheTwo is P7.2, and Refute and None of S5 and S6.
func TestOneOfTheTwo(t *testing.T) {
	refuted, split, there := 0, 0, 0
	eachCase(t, 1200, 8, func(c api.Case) {
		_, is, e := sure.First(c)
		r, not, f := sure.None(c)
		_, ok := placesOf(c, nil, r)
		want(t, c, all(not, ok, e, f), all(!is, !is, api.OK, api.OK))
		want(t, c, all(sure.CheckNone(c, r)), all(!is, api.OK))
		for _, p := range twoOf(c) {
			for _, said := range []decided{{p.A, p.B, true}, {p.B, p.A, false}, {p.A, p.A, true}, {p.B, p.B, false}} {
				v, is, e := sure.With(c, said.a, said.b, said.together)
				r, not, f := sure.Refute(c, said.a, said.b, said.together)
				want(t, all(c, said), all(not, e, f), all(!is, api.OK, api.OK))
				want(t, all(c, said), all(sure.CheckRefute(c, said.a, said.b, said.together, r)), all(!is, api.OK))
				if is {
					there++
					fits, _ := sure.Fits(c, v)
					want(t, all(c, said), all(fits, len(r)), all(true, 0))
					continue
				}
				refuted++
				if len(r) > 1 {
					split++
				}
				if _, ok := placesOf(c, []decided{said}, r); !ok || len(v) > 0 {
					t.Errorf("%+v: %+v is refuted by %v", c, said, r)
				}
			}
		}
	})
	if refuted < 5000 || split < 100 || there < 5000 {
		t.Errorf("%d refuted, %d of them with a split; %d there", refuted, split, there)
	}
}

// wantRefuted holds what is said of a list of branches against the oracle.
func wantRefuted(t *testing.T, c api.Case, said decided, r []api.Branch) (places []place, is bool) {
	t.Helper()
	places, is = placesOf(c, []decided{said}, r)
	if got, e := sure.CheckRefute(c, said.a, said.b, said.together, r); got != is || e != api.OK {
		t.Errorf("CheckRefute(%+v, %+v, %+v): %v, error %d", c, said, r, got, e)
	}
	if is && len(having(c, said.a, said.b, said.together)) > 0 {
		t.Errorf("%+v: %+v is refuted by %v, but there is a reassembly", c, said, r)
	}
	ids, e := sure.Uses(c, said.a, said.b, said.together, r)
	if is {
		want(t, all(c, said, r), all(ids, e), all(usedBy(places), api.OK))
	} else {
		want(t, all(c, said, r), all(ids, e), all([]int{}, api.ErrProof))
	}
	_, none := placesOf(c, nil, r)
	if got, e := sure.CheckNone(c, r); got != none || e != api.OK {
		t.Errorf("CheckNone(%+v, %+v): %v, error %d", c, r, got, e)
	}
	return places, is
}

// TestCheckRefute is CheckRefute, CheckNone and Uses of S5 to S7, with refutations of any form, and with what is spoilt in them.
func TestCheckRefute(t *testing.T) {
	d := newDice(21)
	yes, no, apart, deep := 0, 0, 0, 0
	eachCase(t, 1500, 6, func(c api.Case) {
		if len(c.Parts) == 0 {
			return
		}
		for range 6 {
			said := decided{d.IntN(len(c.Parts)), d.IntN(len(c.Parts)), d.IntN(2) == 0}
			r := d.anyTree(c, []decided{said}, 1+d.IntN(4))
			places, is := wantRefuted(t, c, said, r)
			for range 3 {
				if _, is := wantRefuted(t, c, said, d.spoilt(r)); !is {
					no++
				}
			}
			if !is {
				continue
			}
			yes++
			if len(r) > 4 {
				deep++
			}
			if slices.ContainsFunc(places, func(p place) bool { return p.leaf.Kind == api.LeafApart }) {
				apart++
			}
		}
	})
	if yes < 1500 || no < 3000 || apart < 300 || deep < 300 {
		t.Errorf("%d refutations, %d with pairs that are apart, %d deep ones; %d that are none", yes, apart, deep, no)
	}
}

// TestShortLists is CheckRefute of S5 with all lists of up to three branches that name parts of a small case, and one part more.
func TestShortLists(t *testing.T) {
	var words []api.Branch
	for a := range 4 {
		for b := range 4 {
			for _, kind := range []uint8{api.BranchSplit, api.LeafClash, api.LeafApart} {
				words = append(words, api.Branch{Kind: kind, A: a, B: b})
			}
			words = append(words, api.Branch{Kind: api.LeafMany, Many: []int{a, b}})
		}
	}
	var lists [][]api.Branch
	for _, x := range words {
		lists = append(lists, []api.Branch{x})
		for _, y := range words {
			if x.Kind != api.BranchSplit {
				continue
			}
			lists = append(lists, []api.Branch{x, y})
			for _, z := range words {
				lists = append(lists, []api.Branch{x, y, z})
			}
		}
	}
	c := row(3)
	c.Limit = 1
	c.Parts[0].Span.High = 10
	c.Parts[2].Span.Low = 11
	yes := 0
	for _, said := range []decided{{0, 1, true}, {1, 1, false}, {0, 1, false}} {
		for _, r := range lists {
			if _, is := wantRefuted(t, c, said, r); is {
				yes++
			}
		}
	}
	if yes < 150 {
		t.Errorf("only %d refutations", yes)
	}
}

// TestFields is that what is not named is empty, and that all fields may have any values.
func TestFields(t *testing.T) {
	c := limited()
	clash := api.Branch{Kind: api.LeafClash, A: 0, B: 2}
	many := api.Branch{Kind: api.LeafMany, Many: []int{1, 2, 3}}
	split := api.Branch{Kind: api.BranchSplit, A: 2, B: 1}
	of := func(b api.Branch, change func(b *api.Branch)) api.Branch {
		change(&b)
		return b
	}
	check := func(r ...api.Branch) bool {
		_, is := wantRefuted(t, c, decided{0, 1, true}, r)
		return is
	}
	if !check(split, clash, many) {
		t.Error("it is a refutation")
	}
	list := func(l ...int) func(*api.Branch) { return func(b *api.Branch) { b.Many = l } }
	for _, r := range [][]api.Branch{
		{of(split, list(0)), clash, many}, {split, of(clash, list(0)), many}, {split, of(clash, list(0, 2)), many},
		{split, clash, of(many, func(b *api.Branch) { b.A = 1 })}, {split, clash, of(many, func(b *api.Branch) { b.B = 1 })},
		{split, clash, of(many, list())}, {split, clash, of(many, list(0))}, {split, clash, of(many, list(2))}, {split, clash, of(many, list(1, 2))},
		{split, clash, of(many, list(1, 2, 4))}, {split, clash, of(many, list(-1, 1, 2))}, {split, clash, of(many, list(1, 2, math.MaxInt))},
		{split, clash, of(many, list(math.MinInt, 2, 3))}, {split, clash, of(many, list(1, 2, 3, 4, 5, 6, 7, 8, 9))},
	} {
		if check(r...) {
			t.Errorf("%v is none", r)
		}
	}
	for _, x := range []int{-1, 4, 7, 8, math.MinInt, math.MaxInt} {
		for _, b := range []api.Branch{split, clash} {
			for _, y := range []api.Branch{of(b, func(b *api.Branch) { b.A = x }), of(b, func(b *api.Branch) { b.B = x })} {
				if check(y, clash, many) || check(split, y, many) || check(y) {
					t.Errorf("%v is no branch here", y)
				}
			}
		}
	}
	for _, kind := range []uint8{0, 5, 255} {
		for _, b := range []api.Branch{split, clash, many, {}} {
			b.Kind = kind
			if check(b, clash, many) || check(split, b, many) || check(split, clash, b) || check(b) {
				t.Errorf("%v is no branch", b)
			}
		}
	}
}

// TestManyBranches is that a refutation has at most 20000 branches.
func TestManyBranches(t *testing.T) {
	c := limited()
	chain := func(splits int) []api.Branch {
		r := slices.Repeat([]api.Branch{{Kind: api.BranchSplit, A: 3, B: 0}, {Kind: api.LeafClash, A: 2}}, splits)
		return append(r, api.Branch{Kind: api.LeafClash, B: 2})
	}
	for splits, is := range map[int]bool{9999: true, 10000: false, 50000: false} {
		want(t, splits, all(sure.CheckRefute(c, 0, 2, true, chain(splits))), all(is, api.OK))
	}
	want(t, "one missing", all(sure.CheckRefute(c, 0, 2, true, chain(9999)[:19998])), all(false, api.OK))
	want(t, "all missing", all(sure.CheckRefute(c, 0, 2, true, slices.Repeat([]api.Branch{{Kind: api.BranchSplit, A: 1}}, 20000))), all(false, api.OK))
	ids, e := sure.Uses(c, 0, 2, true, chain(9999))
	want(t, "ids", all(ids, e), all([]int{11, 12}, api.OK))
	ids, e = sure.Uses(c, 0, 2, true, chain(10000))
	want(t, "no ids", all(ids, e), all([]int{}, api.ErrProof))
}

func TestExamplesOfUses(t *testing.T) {
	c := limited()
	feet := limited()
	feet.Parts[1].Foot, feet.Parts[1].FootBy = true, 13
	bare := limited()
	bare.By, bare.Parts[0].FootBy, bare.Parts[2].Span.LowBy = 0, 0, 0
	for _, x := range []struct {
		c        api.Case
		a, b     int
		together bool
		s        string
		ids      []int
	}{
		{c, 0, 3, false, "0+2+3", []int{5, 8, 11, 12, 20}},
		{c, 0, 1, true, "2/1 0=2 1+2+3", []int{3, 5, 8, 11, 12, 20}},
		{c, 1, 3, true, "1=3", []int{3, 8}},
		{c, 1, 3, true, "3=1", []int{3, 8}},
		{c, 1, 1, false, "1#1", nil},
		{c, 1, 2, false, "1/2 1#2 1+2+3", []int{3, 5, 8, 20}},
		{c, 1, 2, true, "0+1+3", nil},
		// What is decided comes ahead of a clash, and feet ahead of colours.
		{c, 1, 3, false, "1+2+3", nil},
		{c, 0, 2, false, "0+2+3", nil},
		{c, 0, 2, true, "0+2+3", []int{5, 8, 11, 12, 20}},
		{feet, 0, 3, false, "0+2+3", []int{5, 8, 11, 12, 20}},
		{feet, 1, 2, true, "1=2", []int{12, 13}},
		{feet, 1, 3, true, "0+1+2", []int{11, 12, 13, 20}},
		{bare, 0, 3, false, "0+2+3", []int{8, 12}},
	} {
		r := branches(t, x.s)
		ids, e := sure.Uses(x.c, x.a, x.b, x.together, r)
		if is, _ := sure.CheckRefute(x.c, x.a, x.b, x.together, r); !is {
			want(t, x, all(ids, e), all([]int{}, api.ErrProof))
		} else {
			want(t, x, all(ids, e), all(x.ids, api.OK))
		}
	}
	_, e := sure.Uses(c, 0, 3, true, branches(t, "0+2+3"))
	want(t, "no refutation", all(e), all(api.ErrProof))
}

// TestUsed is P7.5 of Uses: the case with these Ids alone has the same refutation.
func TestUsed(t *testing.T) {
	d := newDice(22)
	less := 0
	eachCase(t, 1000, 6, func(c api.Case) {
		for _, p := range twoOf(c) {
			said := decided{p.A, p.B, d.IntN(2) == 0}
			r := d.anyTree(c, []decided{said}, 2)
			ids, e := sure.Uses(c, said.a, said.b, said.together, r)
			if e != api.OK {
				continue
			}
			o, e := sure.Only(c, ids)
			want(t, all(c, ids), all(e), all(api.OK))
			want(t, all(c, said, r, ids), all(sure.CheckRefute(o, said.a, said.b, said.together, r)), all(true, api.OK))
			if len(ids) < len(idsOf(c)) {
				less++
			}
		}
	})
	if less < 1000 {
		t.Errorf("only %d times fewer Ids", less)
	}
}

// TestLargeRefutations is that refutations of the largest cases are not too large.
func TestLargeRefutations(t *testing.T) {
	d := newDice(23)
	for range 150 {
		c := oracle.AnyCase(d, 8)
		for _, p := range twoOf(c) {
			for _, together := range []bool{false, true} {
				r, ok, e := sure.Refute(c, p.A, p.B, together)
				if e != api.OK || len(r) > 20000 || ok != (len(r) > 0) {
					t.Errorf("Refute(%+v, %+v, %v): %d branches, %v, error %d", c, p, together, len(r), ok, e)
				}
			}
		}
	}
}
