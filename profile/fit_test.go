package profile_test

import (
	"fmt"
	"math"
	"slices"
	"strings"
	"testing"

	"conjoin/api"
	"conjoin/profile"
)

func TestExamplesOfFits(t *testing.T) {
	l := parse(t, vessels)
	for _, c := range []struct {
		r    []api.Ring
		want api.Fit
		is   bool
	}{
		{[]api.Ring{ring(1, "d")}, api.Fit{Shift: 1, Word: "acd"}, true},
		{[]api.Ring{ring(0, "c"), ring(1, "c")}, api.Fit{Shift: 1, Word: "accd"}, true},
		{nil, api.Fit{Word: "accd"}, true},
		{[]api.Ring{ring(0, "a"), ring(3, "c")}, api.Fit{}, false},
		{[]api.Ring{ring(0, "e")}, api.Fit{}, false},
	} {
		f, ok, e := profile.Complete(l, "bell", c.r)
		wantAll(t, c.r, e, f, c.want)
		wantAll(t, c.r, e, ok, c.is)
	}
	r := []api.Ring{ring(0, "a"), ring(3, "c")}
	b, ok, e := profile.Blanks(l, "bell", r)
	wantAll(t, r, e, b, []api.Blank{{Sets: []string{"a", "c", "cd", "c"}}})
	wantAll(t, r, e, ok, true)
	n, ok, e := profile.Ruled(l, "bell", r)
	wantAll(t, r, e, n, []int{1})
	wantAll(t, r, e, ok, true)
	fits, e := profile.Shifts(l, "bell", []api.Ring{ring(0, "c"), ring(1, "d")})
	wantAll(t, "Shifts", e, fits, []api.Fit{{Shift: 1, Word: "acd"}, {Shift: 2, Word: "accd"}, {Type: 1, Shift: 1, Word: "bcd"}})
	s, e := profile.Choices(l, "bell", []api.Ring{ring(0, "c")}, 1)
	wantAll(t, "Choices", e, s, "cd")
}

// firsts are the first ones of some fits, in their order, of each type and shift.
func firsts(fits []api.Fit) []api.Fit {
	return slices.CompactFunc(slices.Clone(fits), func(f, g api.Fit) bool { return f.Type == g.Type && f.Shift == g.Shift })
}

// TestFits is D6 and D8, and the first part of P4.2.
func TestFits(t *testing.T) {
	whole, bare := 0, 0
	eachRun(t, 1200, func(l []api.Type, ware string, r []api.Ring) {
		what := fmt.Sprint(l, ware, r)
		all := allFits(l, ware, r)
		var first api.Fit
		if len(all) > 0 {
			first = all[0]
			whole++
		} else {
			bare++
		}
		f, ok, e := profile.Complete(l, ware, r)
		wantAll(t, what, e, f, first)
		wantAll(t, what, e, ok, len(all) > 0)
		is, e := profile.CheckFit(l, ware, r, f)
		wantAll(t, what, e, is, ok)
		fits, e := profile.Shifts(l, ware, r)
		wantAll(t, what, e, fits, firsts(all))
		for at := range 12 {
			want := ""
			for _, f := range all {
				if p := f.Shift + at; p < len(f.Word) {
					want += f.Word[p : p+1]
				}
			}
			s, e := profile.Choices(l, ware, r, at)
			wantAll(t, what, e, s, ascending(want))
		}
	})
	if whole < 300 || bare < 300 {
		t.Errorf("%d times rings can be completed, %d times not", whole, bare)
	}
}

// TestCheckFit is CheckFit of D6, with all short words at all types and shifts.
func TestCheckFit(t *testing.T) {
	yes := 0
	eachRun(t, 60, func(l []api.Type, ware string, r []api.Ring) {
		all := allFits(l, ware, r)
		for of := -1; of <= len(l); of++ {
			for shift := -2; shift < 7; shift++ {
				for _, w := range words(curves+strange, 3) {
					f := api.Fit{Type: of, Shift: shift, Word: w}
					want := slices.Contains(all, f)
					if want {
						yes++
					}
					if is, e := profile.CheckFit(l, ware, r, f); is != want || e != api.OK {
						t.Fatalf("CheckFit(%v, %s, %v, %v): %v, error %d", l, ware, r, f, is, e)
					}
				}
			}
		}
	})
	if yes < 200 {
		t.Errorf("only %d fits", yes)
	}
}

// TestNoFits has fits with numbers and words that are none.
func TestNoFits(t *testing.T) {
	l := []api.Type{full("t"), least()}
	r := []api.Ring{ring(0, "a"), ring(11, "b")}
	long := "aaaaaaaaaaab"
	for _, c := range []struct {
		r    []api.Ring
		f    api.Fit
		want bool
	}{
		{r, api.Fit{Word: long}, true}, {r, api.Fit{Word: long[1:]}, false}, {r, api.Fit{Word: long + "b"}, false}, {r, api.Fit{Shift: 1, Word: long}, false}, {r, api.Fit{Shift: math.MaxInt, Word: long}, false},
		{r, api.Fit{Shift: math.MinInt, Word: long}, false}, {r, api.Fit{Shift: -1, Word: long}, false}, {r, api.Fit{Type: math.MaxInt, Word: long}, false}, {r, api.Fit{Type: math.MinInt, Word: long}, false},
		{r, api.Fit{Type: 1, Word: long}, false}, {r, api.Fit{Word: strings.ToUpper(long)}, false}, {r, api.Fit{}, false}, {nil, api.Fit{}, false}, {nil, api.Fit{Word: "q"}, true}, {nil, api.Fit{Shift: 1, Word: "qq"}, false},
		{nil, api.Fit{Type: 1, Word: "a"}, false}, {r[:1], api.Fit{Shift: 11, Word: "zzzzzzzzzzza"}, true}, {r[:1], api.Fit{Shift: 12, Word: "zzzzzzzzzzzza"}, false}, {r[1:], api.Fit{Word: long}, true},
		{r[1:], api.Fit{Word: long[:11]}, false},
	} {
		is, e := profile.CheckFit(l, "bell", c.r, c.f)
		wantAll(t, c, e, is, c.want)
	}
}

// greater are lists of blanks that differ from one in one thing, some of them blanks too.
func greater(b []api.Blank) [][]api.Blank {
	var l [][]api.Blank
	change := func(f func(c []api.Blank) []api.Blank) {
		c := slices.Clone(b)
		for i := range c {
			c[i].Sets = slices.Clone(c[i].Sets)
		}
		l = append(l, f(c))
	}
	change(func(c []api.Blank) []api.Blank { return append(c, api.Blank{}) })
	for i, x := range b {
		change(func(c []api.Blank) []api.Blank { return slices.Delete(c, i, i+1) })
		change(func(c []api.Blank) []api.Blank { return slices.Insert(c, i, x) })
		change(func(c []api.Blank) []api.Blank { c[0], c[i] = c[i], c[0]; return c })
		for _, n := range []int{-1, 1, math.MaxInt, math.MinInt} {
			change(func(c []api.Blank) []api.Blank { c[i].Type += n; return c })
			change(func(c []api.Blank) []api.Blank { c[i].Shift += n; return c })
		}
		change(func(c []api.Blank) []api.Blank { c[i].Sets = append(c[i].Sets, ""); return c })
		for p, set := range x.Sets {
			change(func(c []api.Blank) []api.Blank { c[i].Sets = slices.Delete(c[i].Sets, p, p+1); return c })
			for _, s := range []string{"", set + "z", "z" + set, set + set, ascending(set + "z"), ascending(set + "b"), ascending(set + strange), set + "{", "A" + set} {
				change(func(c []api.Blank) []api.Blank { c[i].Sets[p] = s; return c })
			}
			for k := range set {
				change(func(c []api.Blank) []api.Blank { c[i].Sets[p] = set[:k] + set[k+1:]; return c })
			}
		}
	}
	return l
}

// reached is, for each type and shift, which classes can be there place by place, whether or not rings can be completed.
func reached(l []api.Type, ware string, r []api.Ring) []api.Blank {
	var b []api.Blank
	for of, x := range l {
		shifts := 1
		if len(r) > 0 {
			shifts = x.Most - r[len(r)-1].At
		}
		for shift := 0; x.Ware == ware && shift < shifts; shift++ {
			blank := api.Blank{Type: of, Shift: shift}
			may := x.Rim
			for p := range x.Most {
				for _, y := range r {
					if shift+y.At == p {
						may = inBoth(may, y.Set)
					}
				}
				blank.Sets = append(blank.Sets, ascending(may))
				next := ""
				for _, c := range may {
					next += x.After[c-'a']
				}
				may = next
			}
			b = append(b, blank)
		}
	}
	return b
}

// TestBlanks is D7, and the second part of P4.2.
func TestBlanks(t *testing.T) {
	yes, no := 0, 0
	eachRun(t, 500, func(l []api.Type, ware string, r []api.Ring) {
		what := fmt.Sprint(l, ware, r)
		bare := len(allFits(l, ware, r)) == 0
		steps := reached(l, ware, r)
		var want []api.Blank
		if bare {
			want = steps
		}
		b, ok, e := profile.Blanks(l, ware, r)
		wantAll(t, what, e, b, want)
		wantAll(t, what, e, ok, bare)
		is, e := profile.CheckBlanks(l, ware, r, steps)
		wantAll(t, what, e, is, bare)
		for _, c := range greater(steps) {
			want := areBlanks(l, ware, r, c)
			if want {
				yes++
			} else {
				no++
			}
			if is, e := profile.CheckBlanks(l, ware, r, c); is != want || e != api.OK || is && !bare {
				t.Fatalf("CheckBlanks(%s, %v): %v, error %d, want %v", what, c, is, e, want)
			}
		}
	})
	if yes < 200 || no < 2000 {
		t.Errorf("%d times blanks, %d times not", yes, no)
	}
}

// TestBlanksBeyond has rings that no type has places for: there are no blanks, and that shows that nothing fits.
func TestBlanksBeyond(t *testing.T) {
	l := parse(t, vessels)
	r := []api.Ring{ring(0, "b"), ring(4, "d")}
	b, ok, e := profile.Blanks(l, "bell", r)
	wantAll(t, r, e, b, []api.Blank(nil))
	wantAll(t, r, e, ok, true)
	is, e := profile.CheckBlanks(l, "bell", r, nil)
	wantAll(t, r, e, is, true)
	is, e = profile.CheckBlanks(l, "bell", r[:1], nil)
	wantAll(t, r, e, is, false)
	n, ok, e := profile.Ruled(l, "bell", r)
	wantAll(t, r, e, n, []int{1})
	wantAll(t, r, e, ok, true)
}

// TestWidest has the rings and the types with most places.
func TestWidest(t *testing.T) {
	var r []api.Ring
	for i := range 12 {
		r = append(r, ring(i, "bq"))
	}
	var l []api.Type
	for i := range 12 {
		l = append(l, full("t"+string(rune('a'+i))))
	}
	l[0].After['b'-'a'] = "acdefghijklmnopqrstuvwxyz"
	fits, e := profile.Shifts(l[:2], "bell", r)
	wantAll(t, "Shifts", e, fits, []api.Fit{{Word: "bqbqbqbqbqbq"}, {Type: 1, Word: "bbbbbbbbbbbb"}})
	fits, e = profile.Shifts(l, "bell", r[11:])
	if len(fits) != 12 || e != api.OK {
		t.Errorf("Shifts: %v, error %d", fits, e)
	}
	fits, e = profile.Shifts(l, "bell", r[:1])
	if len(fits) != 144 || fits[143] != (api.Fit{Type: 11, Shift: 11, Word: "aaaaaaaaaaab"}) || e != api.OK {
		t.Errorf("Shifts: %v, error %d", fits, e)
	}
	for i := range l {
		l[i].Base = "a"
	}
	b, ok, e := profile.Blanks(l, "bell", r)
	if len(b) != 12 || len(b[7].Sets) != 12 || b[7].Sets[11] != "bq" || !ok || e != api.OK {
		t.Errorf("Blanks: %v, %v, error %d", b, ok, e)
	}
	n, ok, e := profile.Ruled(l, "bell", r)
	wantAll(t, "Ruled", e, n, []int{11})
	wantAll(t, "Ruled", e, ok, true)
}

// ruled are the indices of rings that by themselves cannot be completed, found as the chapter says.
func ruled(l []api.Type, ware string, r []api.Ring) []int {
	var left []int
	for i := range r {
		left = append(left, i)
	}
	for i := len(r) - 1; i >= 0; i-- {
		less := slices.DeleteFunc(slices.Clone(left), func(k int) bool { return k == i })
		if len(allFits(l, ware, chosen(r, less))) == 0 {
			left = less
		}
	}
	return left
}

func chosen(r []api.Ring, indices []int) []api.Ring {
	var l []api.Ring
	for _, i := range indices {
		l = append(l, r[i])
	}
	return l
}

// TestRuled is D9, and P4.6.
func TestRuled(t *testing.T) {
	seen := map[int]int{}
	eachRun(t, 3000, func(l []api.Type, ware string, r []api.Ring) {
		what := fmt.Sprint(l, ware, r)
		bare := len(allFits(l, ware, r)) == 0
		n, ok, e := profile.Ruled(l, ware, r)
		wantAll(t, what, e, ok, bare)
		if !bare {
			wantAll(t, what, e, n, []int(nil))
			return
		}
		seen[len(n)]++
		wantAll(t, what, e, n, ruled(l, ware, r))
		_, is, e := profile.Complete(l, ware, chosen(r, n))
		wantAll(t, what, e, is, false)
		for _, i := range n {
			_, is, e := profile.Complete(l, ware, chosen(r, slices.DeleteFunc(slices.Clone(n), func(k int) bool { return k == i })))
			wantAll(t, what, e, is, true)
		}
	})
	for n := range 3 {
		if seen[n] < 10 {
			t.Errorf("%d rings only %d times", n, seen[n])
		}
	}
}

// TestRuledByTypes has rings of which each type has all but one, so that no one can be left out, and rings of which the last one can.
func TestRuledByTypes(t *testing.T) {
	l := parse(t, "type x w 3 3\nrim a\nbase z\nafter a b\nafter b z\ntype y w 3 3\nrim a\nbase c\nafter a z\nafter z c\ntype z w 3 3\nrim z\nbase c\nafter b c\nafter z b\n")
	r := []api.Ring{ring(0, "a"), ring(1, "b"), ring(2, "c")}
	n, ok, e := profile.Ruled(l, "w", r)
	wantAll(t, r, e, n, []int{0, 1, 2})
	wantAll(t, r, e, ok, true)
	r[1].Set = "c"
	n, ok, e = profile.Ruled(l, "w", r)
	wantAll(t, r, e, n, []int{0, 1})
	wantAll(t, r, e, ok, true)
}

// TestNarrower is P4.4: a ring more where there is one already, or a Set with fewer classes.
func TestNarrower(t *testing.T) {
	d := newDice(9)
	fewer := 0
	eachRun(t, 600, func(l []api.Type, ware string, less []api.Ring) {
		if len(less) == 0 {
			return
		}
		r := slices.Clone(less)
		if i := d.IntN(len(r)); d.IntN(2) == 0 || len(r) == 1 {
			r[i].Set = ascending(r[i].Set + curves[:2])
		} else {
			r = slices.Delete(r, i, i+1)
		}
		what := fmt.Sprint(l, ware, r, less)
		before, e := profile.Shifts(l, ware, r)
		wantErr(t, what, e, api.OK)
		after, e := profile.Shifts(l, ware, less)
		wantErr(t, what, e, api.OK)
		if len(after) < len(before) {
			fewer++
		}
		for _, f := range after {
			if !slices.ContainsFunc(before, func(g api.Fit) bool { return f.Type == g.Type && f.Shift == g.Shift }) {
				t.Errorf("%s: %v is new", what, f)
			}
		}
		for at := range 12 {
			s, e := profile.Choices(l, ware, r, at)
			wantErr(t, what, e, api.OK)
			n, e := profile.Choices(l, ware, less, at)
			wantAll(t, what, e, inBoth(n, s), n)
		}
	})
	if fewer < 50 {
		t.Errorf("only %d times fewer shifts", fewer)
	}
}
