package sure_test

import (
	"math"
	"slices"
	"testing"

	"conjoin/api"
	"conjoin/oracle"
	"conjoin/sure"
)

// row is a case of so many parts of one sherd each, of any colour and without a foot.
func row(n int) api.Case {
	c := api.Case{Ware: "bell"}
	for i := range n {
		c.Parts = append(c.Parts, api.Part{Sherds: []int{i + 1}, Span: api.Span{High: 1000}})
	}
	return c
}

// TestCheckCase is CheckCase of S1, with what is just allowed, and what is not.
func TestCheckCase(t *testing.T) {
	oracle.Changed(func(name string, c api.Case, e api.Errno) { want(t, name, all(sure.CheckCase(c)), all(e)) })
	want(t, "8 parts", all(sure.CheckCase(row(8))), all(api.OK))
	want(t, "9 parts", all(sure.CheckCase(row(9))), all(api.ErrLarge))
	want(t, "41 parts", all(sure.CheckCase(row(41))), all(api.ErrLarge))
	want(t, "9 parts that are none", all(sure.CheckCase(api.Case{Limit: -1, Parts: make([]api.Part, 9)})), all(api.ErrLarge))
	c := row(8)
	c.Parts[7].Sherds[0] = 1
	want(t, "the last one as the first one", all(sure.CheckCase(c)), all(api.ErrArg))
}

// errorsOf are the errors of the functions with a case: parted, of those that name parts of it; whole, of others that need a reassembly; and others. (Answer and Lineage, which name parts, need one too.)
func errorsOf(c, d api.Case, a, b int) (parted, others, whole map[string]api.Errno) {
	parted, others, whole = map[string]api.Errno{}, map[string]api.Errno{}, map[string]api.Errno{}
	r := []api.Branch{{Kind: api.LeafClash, A: a, B: b}}
	others["CheckCase"] = sure.CheckCase(c)
	_, parted["Clash"] = sure.Clash(c, a, b)
	_, others["Fits"] = sure.Fits(c, []int{a, b})
	_, _, others["First"] = sure.First(c)
	_, others["Count"] = sure.Count(c)
	_, _, parted["With"] = sure.With(c, a, b, true)
	_, _, parted["Refute"] = sure.Refute(c, a, b, false)
	_, parted["CheckRefute"] = sure.CheckRefute(c, a, b, true, r)
	_, _, others["None"] = sure.None(c)
	_, others["CheckNone"] = sure.CheckNone(c, r)
	_, others["Without"] = sure.Without(c, 7)
	_, others["Only"] = sure.Only(c, []int{a, b})
	_, whole["Answers"] = sure.Answers(c)
	_, whole["Open"] = sure.Open(c)
	_, whole["Certain"] = sure.Certain(c)
	_, whole["Reached"] = sure.Reached(c, d)
	_, whole["Reached from"] = sure.Reached(d, c)
	_, parted["Answer"] = sure.Answer(c, a, b)
	_, parted["Lineage"] = sure.Lineage(c, a, b)
	return parted, others, whole
}

func wantErrors(t *testing.T, what any, want api.Errno, l ...map[string]api.Errno) {
	t.Helper()
	for _, m := range l {
		for name, e := range m {
			if e != want {
				t.Errorf("%v: %s: error %d, want %d", what, name, e, want)
			}
		}
	}
}

// TestErrors is that the error of the case comes first, then ErrArg, and then ErrWhole.
func TestErrors(t *testing.T) {
	flat := limited()
	flat.Parts[1].Sherds = nil
	for want, c := range map[api.Errno]api.Case{api.ErrLarge: {Parts: make([]api.Part, 9)}, api.ErrArg: flat} {
		for _, x := range []int{0, 3, -1, 4, 9, math.MaxInt} {
			parted, others, whole := errorsOf(c, limited(), x, 1)
			wantErrors(t, x, want, parted, others, whole)
		}
	}
	far := []int{-1, 4, 8, math.MinInt, math.MaxInt}
	for _, c := range []api.Case{limited(), tight()} {
		for _, x := range far {
			for _, two := range [][2]int{{x, 1}, {3, x}, {x, x}} {
				parted, others, _ := errorsOf(c, limited(), two[0], two[1])
				wantErrors(t, two, api.ErrArg, parted)
				wantErrors(t, two, api.OK, others)
			}
		}
	}
	parted, others, whole := errorsOf(tight(), limited(), 0, 3)
	wantErrors(t, "no reassembly", api.ErrWhole, whole, map[string]api.Errno{"Answer": parted["Answer"], "Lineage": parted["Lineage"]})
	delete(parted, "Answer")
	delete(parted, "Lineage")
	wantErrors(t, "no reassembly", api.OK, parted, others)
	parted, others, whole = errorsOf(limited(), limited(), 3, 0)
	wantErrors(t, "all is well", api.OK, parted, others, whole)
	parted, others, whole = errorsOf(api.Case{Ware: "bell"}, api.Case{Ware: "bell"}, 0, 0)
	wantErrors(t, "no parts", api.ErrArg, parted)
	wantErrors(t, "no parts", api.OK, others, whole)
}

// TestTwoErrors is which error comes first if two cases have one.
func TestTwoErrors(t *testing.T) {
	large, flat := row(9), api.Case{}
	for _, x := range []struct {
		c, d api.Case
		want api.Errno
	}{
		{large, flat, api.ErrLarge}, {flat, large, api.ErrArg}, {limited(), large, api.ErrLarge}, {tight(), large, api.ErrLarge}, {tight(), row(3), api.ErrArg},
		{row(3), tight(), api.ErrArg}, {tight(), limited(), api.ErrWhole}, {limited(), tight(), api.ErrWhole}, {row(4), limited(), api.OK}, {row(8), row(7), api.ErrArg},
	} {
		_, e := sure.Reached(x.c, x.d)
		want(t, x, all(e), all(x.want))
	}
	proof := []api.Branch{{Kind: api.LeafMany, Many: []int{0, 2, 3}}}
	for _, x := range []struct {
		c    api.Case
		a    int
		want api.Errno
	}{{large, 9, api.ErrLarge}, {limited(), 4, api.ErrArg}, {limited(), 1, api.ErrProof}, {limited(), 0, api.OK}} {
		_, e := sure.Uses(x.c, x.a, 3, false, proof)
		want(t, x, all(e), all(x.want))
	}
}

func TestExamplesOfCases(t *testing.T) {
	c := limited()
	want(t, "feet", all(sure.Clash(c, 0, 2)), all(true, api.OK))
	want(t, "14 and 15", all(sure.Clash(c, 1, 3)), all(true, api.OK))
	want(t, "colours in common", all(sure.Clash(c, 0, 1)), all(false, api.OK))
	want(t, "colours apart", all(sure.Clash(c, 2, 3)), all(true, api.OK))
	want(t, "the foot of one part", all(sure.Clash(c, 0, 0)), all(false, api.OK))
}

// TestClash is Clash of S1, against the oracle.
func TestClash(t *testing.T) {
	clashes := 0
	eachTwo(t, 400, 8, func(c api.Case, a, b int) {
		is := oracle.Clash(c, a, b)
		want(t, all(c, a, b), all(sure.Clash(c, a, b)), all(is, api.OK))
		if is {
			clashes++
		}
	})
	if clashes < 1000 {
		t.Errorf("only %d clashes", clashes)
	}
}

// TestOrder is P7.7: parts in another order have the same answers.
func TestOrder(t *testing.T) {
	d := newDice(3)
	eachCase(t, 120, 8, func(c api.Case) {
		order := d.Perm(len(c.Parts))
		other := c
		other.Parts = nil
		for _, p := range order {
			other.Parts = append(other.Parts, c.Parts[p])
		}
		l, e := sure.Answers(c)
		m, f := sure.Answers(other)
		want(t, c, all(f), all(e))
		for a := range m {
			for b := range m {
				want(t, all(c, order, a, b), all(m[a][b]), all(l[order[a]][order[b]]))
			}
		}
	})
}

// TestNoLimit is P7.8.
func TestNoLimit(t *testing.T) {
	eachCase(t, 150, 7, func(c api.Case) {
		c = oracle.Unlimited(c)
		l, e := sure.Answers(c)
		want(t, c, all(e), all(api.OK))
		for a := range l {
			for b := range l {
				is, _ := sure.Clash(c, a, b)
				if a != b && (l[a][b] == api.SureTogether || (l[a][b] == api.SureApart) != is) {
					t.Errorf("%+v: the answer of %d and %d is %d, and they clash: %v", c, a, b, l[a][b], is)
				}
			}
		}
	})
	one := 0
	eachCase(t, 400, 7, func(c api.Case) {
		n, _ := sure.Count(c)
		open, e := sure.Open(c)
		if e == api.OK {
			want(t, c, all(n == 1), all(len(open) == 0))
		}
		if n == 1 && slices.ContainsFunc(twoOf(c), func(p api.Pair) bool { return !oracle.Clash(c, p.A, p.B) }) {
			one++
		}
	})
	if one < 10 {
		t.Errorf("only %d times just one reassembly, and not only for clashes", one)
	}
}
