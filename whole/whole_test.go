package whole_test

import (
	"math"
	"slices"
	"strings"
	"testing"

	"conjoin/api"
	"conjoin/whole"
)

// most is a part that has as much as a part can have, from an Id on.
func most(from int) api.Part {
	p := api.Part{Span: api.Span{Low: 1, High: 999, LowBy: api.MaxId, HighBy: 1}, Foot: true, FootBy: api.MaxId}
	for i := range api.MaxSherds {
		p.Sherds = append(p.Sherds, from+i)
	}
	for i := range api.MaxRests {
		p.Rests = append(p.Rests, 1+i)
	}
	return p
}

// TestCheckCase is CheckCase of F1, with what is just allowed, and what is not.
func TestCheckCase(t *testing.T) {
	changes := map[api.Errno]map[string]func(c *api.Case){
		api.OK: {
			"as it is":          func(c *api.Case) {},
			"no parts":          func(c *api.Case) { c.Parts = nil },
			"ware z":            func(c *api.Case) { c.Ware = "z" },
			"ware of 24":        func(c *api.Case) { c.Ware = "a-09" + strings.Repeat("z", 20) },
			"no limit":          func(c *api.Case) { c.Limit, c.By = 0, 0 },
			"limit by none":     func(c *api.Case) { c.By = 0 },
			"limit 1":           func(c *api.Case) { c.Limit = 1 },
			"limit 40":          func(c *api.Case) { c.Limit = 40 },
			"by 1":              func(c *api.Case) { c.By = 1 },
			"by a million":      func(c *api.Case) { c.By = 1000000 },
			"40 sherds":         func(c *api.Case) { c.Parts[2] = most(1) },
			"last sherds":       func(c *api.Case) { c.Parts[2] = most(999961) },
			"no record":         func(c *api.Case) { c.Parts[2].Span = api.Span{Low: 3, High: 4}; c.Parts[2].FootBy = 0 },
			"all colours":       func(c *api.Case) { c.Parts[2].Span = api.Span{High: 1000} },
			"the first colour":  func(c *api.Case) { c.Parts[2].Span = api.Span{HighBy: 1} },
			"the last colour":   func(c *api.Case) { c.Parts[2].Span = api.Span{Low: 1000, High: 1000, LowBy: 1} },
			"records of others": func(c *api.Case) { c.Parts[2].Span.LowBy, c.Parts[2].Rests = 1, []int{101, 1000000} },
		},
		api.ErrArg: {
			"no ware":              func(c *api.Case) { c.Ware = "" },
			"ware 9a":              func(c *api.Case) { c.Ware = "9a" },
			"ware -a":              func(c *api.Case) { c.Ware = "-a" },
			"ware A":               func(c *api.Case) { c.Ware = "A" },
			"ware of two words":    func(c *api.Case) { c.Ware = "a b" },
			"ware of other bytes":  func(c *api.Case) { c.Ware = "a\xff" },
			"ware of 25":           func(c *api.Case) { c.Ware = strings.Repeat("a", 25) },
			"no ware, no parts":    func(c *api.Case) { c.Ware, c.Parts = "", nil },
			"limit -1":             func(c *api.Case) { c.Limit = -1 },
			"limit 41":             func(c *api.Case) { c.Limit = 41 },
			"limit far below":      func(c *api.Case) { c.Limit = math.MinInt },
			"limit far above":      func(c *api.Case) { c.Limit = math.MaxInt },
			"by without a limit":   func(c *api.Case) { c.Limit = 0 },
			"by -1":                func(c *api.Case) { c.By = -1 },
			"by -1, no limit":      func(c *api.Case) { c.Limit, c.By = 0, -1 },
			"by too many":          func(c *api.Case) { c.By = 1000001 },
			"no sherds":            func(c *api.Case) { c.Parts[2].Sherds = nil },
			"41 sherds":            func(c *api.Case) { c.Parts[2] = most(1); c.Parts[2].Sherds = append(c.Parts[2].Sherds, 41) },
			"sherd 0":              func(c *api.Case) { c.Parts[2].Sherds = []int{0} },
			"sherd -1":             func(c *api.Case) { c.Parts[2].Sherds = []int{-1} },
			"sherd too great":      func(c *api.Case) { c.Parts[2].Sherds = []int{1000001} },
			"sherds descend":       func(c *api.Case) { c.Parts[2].Sherds = []int{7, 6} },
			"a sherd twice":        func(c *api.Case) { c.Parts[2].Sherds = []int{6, 6} },
			"a sherd in two":       func(c *api.Case) { c.Parts[3].Sherds = []int{5, 103} },
			"sherds far":           func(c *api.Case) { c.Parts[2].Sherds = []int{math.MinInt, math.MaxInt} },
			"201 rests":            func(c *api.Case) { c.Parts[2] = most(1); c.Parts[2].Rests = append(c.Parts[2].Rests, 201) },
			"rest 0":               func(c *api.Case) { c.Parts[2].Rests = []int{0, 1} },
			"rest too great":       func(c *api.Case) { c.Parts[2].Rests = []int{1, 1000001} },
			"rests descend":        func(c *api.Case) { c.Parts[2].Rests = []int{3, 2} },
			"a rest twice":         func(c *api.Case) { c.Parts[2].Rests = []int{3, 3} },
			"low -1":               func(c *api.Case) { c.Parts[2].Span = api.Span{Low: -1, High: 5} },
			"high 1001":            func(c *api.Case) { c.Parts[2].Span = api.Span{Low: 1, High: 1001} },
			"no colour":            func(c *api.Case) { c.Parts[2].Span = api.Span{Low: 5, High: 4} },
			"colours far":          func(c *api.Case) { c.Parts[2].Span = api.Span{Low: math.MinInt, High: math.MaxInt} },
			"low by nature":        func(c *api.Case) { c.Parts[2].Span = api.Span{High: 5, LowBy: 1} },
			"high by nature":       func(c *api.Case) { c.Parts[2].Span = api.Span{High: 1000, HighBy: 1} },
			"low by -1":            func(c *api.Case) { c.Parts[2].Span.LowBy = -1 },
			"high by -1":           func(c *api.Case) { c.Parts[2].Span.HighBy = -1 },
			"low by too many":      func(c *api.Case) { c.Parts[2].Span.LowBy = 1000001 },
			"high by too many":     func(c *api.Case) { c.Parts[2].Span.HighBy = 1000001 },
			"by without a foot":    func(c *api.Case) { c.Parts[2].Foot = false },
			"foot by -1":           func(c *api.Case) { c.Parts[2].FootBy = -1 },
			"foot by too many":     func(c *api.Case) { c.Parts[2].FootBy = 1000001 },
			"the last part":        func(c *api.Case) { c.Parts[3].Sherds = nil },
			"the first part":       func(c *api.Case) { c.Parts[0].Sherds = nil },
			"a part that is empty": func(c *api.Case) { c.Parts[1] = api.Part{} },
		},
	}
	for e, l := range changes {
		for name, change := range l {
			c := limited()
			change(&c)
			want(t, name, all(whole.CheckCase(c)), all(e))
		}
	}
	c := api.Case{Ware: "bell"}
	for i := range 41 {
		c.Parts = append(c.Parts, part(i+1, 0, 1000, false))
	}
	want(t, "41 parts", all(whole.CheckCase(c)), all(api.ErrLimit))
	c.Parts = c.Parts[:40]
	want(t, "40 parts", all(whole.CheckCase(c)), all(api.OK))
	c.Parts[39].Sherds[0] = 1
	want(t, "40 parts, the last one as the first one", all(whole.CheckCase(c)), all(api.ErrArg))
	want(t, "41 parts that are none", all(whole.CheckCase(api.Case{Limit: -1, Parts: make([]api.Part, 41)})), all(api.ErrLimit))
}

// errorsOf are the errors of all functions with a case, asked of parts and others.
func errorsOf(c api.Case, a, b int, l []int) map[string]api.Errno {
	m := map[string]api.Errno{"CheckCase": whole.CheckCase(c)}
	_, m["Clash"] = whole.Clash(c, a, b)
	_, m["Rivals"] = whole.Rivals(c, a)
	_, _, m["Common"] = whole.Common(c, l)
	_, m["One"] = whole.One(c, l)
	_, m["Merge"] = whole.Merge(c, a, b)
	_, m["Without"] = whole.Without(c, a)
	_, m["Limited"] = whole.Limited(c, a, b)
	_, m["Demand"] = whole.Demand(c, api.Range{Low: a, High: b})
	_, m["Least"] = whole.Least(c)
	_, m["Witness"] = whole.Witness(c)
	_, m["CheckWitness"] = whole.CheckWitness(c, l)
	_, m["Show"] = whole.Show(c)
	_, m["CheckShow"] = whole.CheckShow(c, []api.Range{{Low: a, High: b}}, a)
	_, m["Critical"] = whole.Critical(c)
	_, _, _, m["Numbers"] = whole.Numbers(c)
	_, _, m["Assign"] = whole.Assign(c, a)
	_, m["CheckAssign"] = whole.CheckAssign(c, l)
	_, m["Colours"] = whole.Colours(c, l)
	_, _, m["Joint"] = whole.Joint(c, a, b)
	_, _, m["Bar"] = whole.Bar(c, a, b)
	_, m["CheckBar"] = whole.CheckBar(c, a, b, l)
	return m
}

// TestErrors is that the error of the case comes first, and then ErrArg for what there is not.
func TestErrors(t *testing.T) {
	flat := limited()
	flat.Parts[1].Sherds = nil
	for want, c := range map[api.Errno]api.Case{api.ErrLimit: {Parts: make([]api.Part, 41)}, api.ErrArg: flat} {
		for _, x := range []int{0, 3, -1, 4, 41} {
			for name, e := range errorsOf(c, x, 1, []int{x}) {
				if e != want {
					t.Errorf("%s of no case: error %d, want %d", name, e, want)
				}
			}
		}
	}
	one := []string{"Clash", "Rivals", "Common", "One", "Merge", "Without", "Joint", "Bar", "CheckBar"}
	two := []string{"Clash", "Common", "One", "Merge", "Joint", "Bar", "CheckBar"}
	for _, x := range []int{-1, 4, 40, math.MinInt, math.MaxInt} {
		wantArg(t, errorsOf(limited(), x, 1, []int{1, x}), one, "Limited", x != 4 && x != 40)
		wantArg(t, errorsOf(limited(), 3, x, []int{x, 3}), two, "Limited", x != 4 && x != 40)
	}
	wantArg(t, errorsOf(api.Case{Ware: "bell"}, 0, 0, []int{0}), one, "Colours", true)
	for p := range limited().Parts {
		wantArg(t, errorsOf(limited(), p, p, []int{0, 1}), []string{"Merge", "Joint", "Bar", "CheckBar"}, "Colours", true)
	}
}

// wantArg wants ErrArg of some functions, and of another one if so; Colours of no reassembly has it too, and others have none.
func wantArg(t *testing.T, errors map[string]api.Errno, some []string, other string, isSo bool) {
	t.Helper()
	for name, e := range errors {
		want := api.OK
		if slices.Contains(some, name) || name == "Colours" || name == other && isSo {
			want = api.ErrArg
		}
		if e != want {
			t.Errorf("%s: error %d, want %d", name, e, want)
		}
	}
}

func TestExamplesOfParts(t *testing.T) {
	c := limited()
	want(t, "feet", all(whole.Clash(c, 0, 2)), all(true, api.OK))
	want(t, "colours", all(whole.Clash(c, 1, 3)), all(true, api.OK))
	want(t, "no clash", all(whole.Clash(c, 0, 1)), all(false, api.OK))
	want(t, "rivals", all(whole.Rivals(c, 3)), all([]int{1, 2}, api.OK))
	want(t, "common", all(whole.Common(c, []int{0, 1})), all(api.Range{Low: 15, High: 20}, true, api.OK))
	want(t, "nothing common", all(whole.Common(c, []int{1, 3})), all(api.Range{}, false, api.OK))
	want(t, "of none", all(whole.Common(c, nil)), all(api.Range{High: 1000}, true, api.OK))
	want(t, "of no parts", all(whole.Common(api.Case{Ware: "bell"}, nil)), all(api.Range{High: 1000}, true, api.OK))
	want(t, "not one", all(whole.One(c, []int{0, 2})), all(false, api.OK))
	want(t, "one", all(whole.One(c, []int{0, 3, 3})), all(true, api.OK))
	want(t, "one of none", all(whole.One(c, nil)), all(true, api.OK))
	want(t, "a foot twice", all(whole.One(c, []int{0, 0})), all(true, api.OK))
	want(t, "two parts over and over", all(whole.One(c, slices.Repeat([]int{3, 0}, 100000))), all(true, api.OK))
	// Feet clash also where colours do not.
	d := api.Case{Ware: "bell", Parts: []api.Part{part(1, 0, 9, true), part(2, 9, 12, true), part(3, 9, 9, false), part(4, 10, 10, false)}}
	want(t, "feet with a colour in common", all(whole.Clash(d, 0, 1)), all(true, api.OK))
	want(t, "their colour", all(whole.Common(d, []int{0, 1})), all(api.Range{Low: 9, High: 9}, true, api.OK))
	want(t, "not one", all(whole.One(d, []int{0, 1})), all(false, api.OK))
	want(t, "colours that just meet", all(whole.Clash(d, 2, 0)), all(false, api.OK))
	want(t, "colours side by side", all(whole.Clash(d, 3, 0)), all(true, api.OK))
}

// TestParts is F2 and F3, and P6.7 of colours, against the oracle.
func TestParts(t *testing.T) {
	one, common := 0, 0
	eachCase(t, 150, 5, func(c api.Case) {
		for a := range c.Parts {
			var rivals []int
			for b := range c.Parts {
				want(t, c, all(whole.Clash(c, a, b)), all(clash(c, a, b), api.OK))
				if clash(c, a, b) {
					rivals = append(rivals, b)
				}
			}
			want(t, c, all(whole.Rivals(c, a)), all(rivals, api.OK))
		}
		some := subsets(c)
		for _, s := range subsets(c) {
			some = append(some, slices.Concat(s, s))
			slices.Reverse(s)
			some = append(some, s)
		}
		for _, s := range some {
			colours, feet := shades(c, s), map[int]bool{}
			for _, p := range s {
				if c.Parts[p].Foot {
					feet[p] = true
				}
			}
			if len(colours) > 0 {
				want(t, c, all(whole.Common(c, s)), all(api.Range{Low: slices.Min(colours), High: slices.Max(colours)}, true, api.OK))
				common++
			} else {
				want(t, c, all(whole.Common(c, s)), all(api.Range{}, false, api.OK))
			}
			is := len(colours) > 0 && len(feet) <= 1
			want(t, c, all(whole.One(c, s)), all(is, api.OK))
			want(t, c, all(canBeOne(c, s)), all(is))
			if is {
				one++
			}
		}
	})
	if one < 500 || common < one+100 {
		t.Errorf("%d times one vessel, %d times a colour in common", one, common)
	}
}
