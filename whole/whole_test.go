package whole_test

import (
	"math"
	"slices"
	"testing"

	"conjoin/api"
	"conjoin/oracle"
	"conjoin/whole"
)

// TestCheckCase is CheckCase of F1, with what is just allowed, and what is not.
func TestCheckCase(t *testing.T) {
	oracle.Changed(func(name string, c api.Case, e api.Errno) { want(t, name, all(whole.CheckCase(c)), all(e)) })
	c := api.Case{Ware: "bell"}
	for i := range 41 {
		c.Parts = append(c.Parts, part(i+1, 0, 1000, false))
	}
	want(t, "41 parts", all(whole.CheckCase(c)), all(api.ErrLimit))
	c.Parts = c.Parts[:40]
	want(t, "40 parts", all(whole.CheckCase(c)), all(api.OK))
	c.Parts[39].Sherds[0] = 1
	want(t, "40 parts, the last one as the first one", all(whole.CheckCase(c)), all(api.ErrArg))
	want(t, "41 parts that are none", all(whole.CheckCase(api.Case{Limit: -1, Parts: make([]api.Part, 41)})), all(api.ErrLimit))
}

// errorsOf are the errors of all functions with a case, asked of parts and others.
func errorsOf(c api.Case, a, b int, l []int) map[string]api.Errno {
	m := map[string]api.Errno{"CheckCase": whole.CheckCase(c)}
	_, m["Clash"] = whole.Clash(c, a, b)
	_, m["Rivals"] = whole.Rivals(c, a)
	_, _, m["Common"] = whole.Common(c, l)
	_, m["One"] = whole.One(c, l)
	_, m["Merge"] = whole.Merge(c, a, b)
	_, m["Without"] = whole.Without(c, a)
	_, m["Limited"] = whole.Limited(c, a, b)
	_, m["Demand"] = whole.Demand(c, api.Range{Low: a, High: b})
	_, m["Least"] = whole.Least(c)
	_, m["Witness"] = whole.Witness(c)
	_, m["CheckWitness"] = whole.CheckWitness(c, l)
	_, m["Show"] = whole.Show(c)
	_, m["CheckShow"] = whole.CheckShow(c, []api.Range{{Low: a, High: b}}, a)
	_, m["Critical"] = whole.Critical(c)
	_, _, _, m["Numbers"] = whole.Numbers(c)
	_, _, m["Assign"] = whole.Assign(c, a)
	_, m["CheckAssign"] = whole.CheckAssign(c, l)
	_, m["Colours"] = whole.Colours(c, l)
	_, _, m["Joint"] = whole.Joint(c, a, b)
	_, _, m["Bar"] = whole.Bar(c, a, b)
	_, m["CheckBar"] = whole.CheckBar(c, a, b, l)
	return m
}

// TestErrors is that the error of the case comes first, and then ErrArg for what there is not.
func TestErrors(t *testing.T) {
	flat := oracle.Limited()
	flat.Parts[1].Sherds = nil
	for want, c := range map[api.Errno]api.Case{api.ErrLimit: {Parts: make([]api.Part, 41)}, api.ErrArg: flat} {
		for _, x := range []int{0, 3, -1, 4, 41} {
			for name, e := range errorsOf(c, x, 1, []int{x}) {
				if e != want {
					t.Errorf("%s of no case: error %d, want %d", name, e, want)
				}
			}
		}
	}
	one := []string{"Clash", "Rivals", "Common", "One", "Merge", "Without", "Joint", "Bar", "CheckBar"}
	two := []string{"Clash", "Common", "One", "Merge", "Joint", "Bar", "CheckBar"}
	for _, x := range []int{-1, 4, 40, math.MinInt, math.MaxInt} {
		wantArg(t, errorsOf(oracle.Limited(), x, 1, []int{1, x}), one, "Limited", x != 4 && x != 40)
		wantArg(t, errorsOf(oracle.Limited(), 3, x, []int{x, 3}), two, "Limited", x != 4 && x != 40)
	}
	wantArg(t, errorsOf(api.Case{Ware: "bell"}, 0, 0, []int{0}), one, "Colours", true)
	for p := range oracle.Limited().Parts {
		wantArg(t, errorsOf(oracle.Limited(), p, p, []int{0, 1}), []string{"Merge", "Joint", "Bar", "CheckBar"}, "Colours", true)
	}
}

// wantArg wants ErrArg of some functions, and of another one if so; Colours of no reassembly has it too, and others have none.
func wantArg(t *testing.T, errors map[string]api.Errno, some []string, other string, isSo bool) {
	t.Helper()
	for name, e := range errors {
		want := api.OK
		if slices.Contains(some, name) || name == "Colours" || name == other && isSo {
			want = api.ErrArg
		}
		if e != want {
			t.Errorf("%s: error %d, want %d", name, e, want)
		}
	}
}

func TestExamplesOfParts(t *testing.T) {
	c := oracle.Limited()
	want(t, "feet", all(whole.Clash(c, 0, 2)), all(true, api.OK))
	want(t, "colours", all(whole.Clash(c, 1, 3)), all(true, api.OK))
	want(t, "no clash", all(whole.Clash(c, 0, 1)), all(false, api.OK))
	want(t, "rivals", all(whole.Rivals(c, 3)), all([]int{1, 2}, api.OK))
	want(t, "common", all(whole.Common(c, []int{0, 1})), all(api.Range{Low: 15, High: 20}, true, api.OK))
	want(t, "nothing common", all(whole.Common(c, []int{1, 3})), all(api.Range{}, false, api.OK))
	want(t, "of none", all(whole.Common(c, nil)), all(api.Range{High: 1000}, true, api.OK))
	want(t, "of no parts", all(whole.Common(api.Case{Ware: "bell"}, nil)), all(api.Range{High: 1000}, true, api.OK))
	want(t, "not one", all(whole.One(c, []int{0, 2})), all(false, api.OK))
	want(t, "one", all(whole.One(c, []int{0, 3, 3})), all(true, api.OK))
	want(t, "one of none", all(whole.One(c, nil)), all(true, api.OK))
	want(t, "a foot twice", all(whole.One(c, []int{0, 0})), all(true, api.OK))
	want(t, "two parts over and over", all(whole.One(c, slices.Repeat([]int{3, 0}, 100000))), all(true, api.OK))
	// Feet clash also where colours do not.
	d := api.Case{Ware: "bell", Parts: []api.Part{part(1, 0, 9, true), part(2, 9, 12, true), part(3, 9, 9, false), part(4, 10, 10, false)}}
	want(t, "feet with a colour in common", all(whole.Clash(d, 0, 1)), all(true, api.OK))
	want(t, "their colour", all(whole.Common(d, []int{0, 1})), all(api.Range{Low: 9, High: 9}, true, api.OK))
	want(t, "not one", all(whole.One(d, []int{0, 1})), all(false, api.OK))
	want(t, "colours that just meet", all(whole.Clash(d, 2, 0)), all(false, api.OK))
	want(t, "colours side by side", all(whole.Clash(d, 3, 0)), all(true, api.OK))
}

// TestParts is F2 and F3, and P6.7 of colours, against the oracle.
func TestParts(t *testing.T) {
	one, common := 0, 0
	eachCase(t, 150, 5, func(c api.Case) {
		for a := range c.Parts {
			var rivals []int
			for b := range c.Parts {
				want(t, c, all(whole.Clash(c, a, b)), all(oracle.Clash(c, a, b), api.OK))
				if oracle.Clash(c, a, b) {
					rivals = append(rivals, b)
				}
			}
			want(t, c, all(whole.Rivals(c, a)), all(rivals, api.OK))
		}
		some := subsets(c)
		for _, s := range subsets(c) {
			some = append(some, slices.Concat(s, s))
			slices.Reverse(s)
			some = append(some, s)
		}
		for _, s := range some {
			colours, feet := shades(c, s), map[int]bool{}
			for _, p := range s {
				if c.Parts[p].Foot {
					feet[p] = true
				}
			}
			if len(colours) > 0 {
				want(t, c, all(whole.Common(c, s)), all(api.Range{Low: slices.Min(colours), High: slices.Max(colours)}, true, api.OK))
				common++
			} else {
				want(t, c, all(whole.Common(c, s)), all(api.Range{}, false, api.OK))
			}
			is := len(colours) > 0 && len(feet) <= 1
			want(t, c, all(whole.One(c, s)), all(is, api.OK))
			want(t, c, all(oracle.CanBeOne(c, s)), all(is))
			if is {
				one++
			}
		}
	})
	if one < 500 || common < one+100 {
		t.Errorf("%d times one vessel, %d times a colour in common", one, common)
	}
}
