package edge_test

import (
	"cmp"
	"math"
	"slices"
	"testing"

	"conjoin/api"
	"conjoin/edge"
)

// searches are the functions that look for pairings, with the error that they return.
func searches() map[string]func(a, b api.Outline, n int) api.Errno {
	return map[string]func(a, b api.Outline, n int) api.Errno{
		"Pairs":   func(a, b api.Outline, n int) api.Errno { _, e := edge.Pairs(a, b, n); return e },
		"Longest": func(a, b api.Outline, n int) api.Errno { _, e := edge.Longest(a, b); return e },
		"Maximal": func(a, b api.Outline, n int) api.Errno { _, e := edge.Maximal(a, b); return e },
	}
}

// meetings are all pairings that meet, by ascending A.From, A.To and B.From.
func meetings(a, b api.Outline) []api.Pairing {
	return slices.DeleteFunc(pairings(a, b), func(p api.Pairing) bool { return !meet(a, b, p) })
}

func sides(p api.Pairing) int { return p.A.To - p.A.From }

// without is a pairing without the first side of A, and without the last one.
func without(p api.Pairing) (front, back api.Pairing) {
	return pairing(p.A.From+1, p.A.To, p.B.From, p.B.To-1), pairing(p.A.From, p.A.To-1, p.B.From+1, p.B.To)
}

// TestPairs is C8: the pairings with a number of sides, and how many sides there can be.
func TestPairs(t *testing.T) {
	longest := map[int]int{}
	eachTwo(250, func(a, b api.Outline) {
		all := meetings(a, b)
		most := 0
		for _, n := range []int{math.MinInt, -1, 0, 1, 2, 3, 4, 5, 6, 16, 17, math.MaxInt} {
			want := slices.DeleteFunc(slices.Clone(all), func(p api.Pairing) bool { return sides(p) != n })
			if len(want) > 0 {
				most = n
			}
			l, e := edge.Pairs(a, b, n)
			wantList(t, "Pairs", l, e, want...)
		}
		n, e := edge.Longest(a, b)
		wantList(t, "Longest", []int{n}, e, most)
		longest[n]++
	})
	for n := range 5 {
		if longest[n] == 0 {
			t.Errorf("none has %d sides: %v", n, longest)
		}
	}
}

// TestMaximal is C9 and P3.4.
func TestMaximal(t *testing.T) {
	shorter := 0
	eachTwo(250, func(a, b api.Outline) {
		all := meetings(a, b)
		part := map[api.Pairing]bool{}
		for _, p := range all {
			front, back := without(p)
			part[front], part[back] = true, true
			for _, q := range []api.Pairing{front, back} {
				if ok, e := edge.Meets(a, b, q); sides(p) > 1 && (!ok || e != api.OK) {
					t.Errorf("%s meets, but not its part %s", name(p), name(q))
				}
			}
		}
		l, e := edge.Maximal(a, b)
		wantList(t, "Maximal", l, e, slices.DeleteFunc(slices.Clone(all), func(p api.Pairing) bool { return part[p] })...)
		n, e := edge.Longest(a, b)
		wantErr(t, "Longest", e, api.OK)
		most := 0
		for _, p := range l {
			most = max(most, sides(p))
		}
		if n != most {
			t.Errorf("Longest: %d, but in Maximal %d", n, most)
		}
		if len(l) > 0 && slices.ContainsFunc(l, func(p api.Pairing) bool { return sides(p) < n }) {
			shorter++
		}
		for _, p := range all {
			if !slices.ContainsFunc(l, func(q api.Pairing) bool { return isPart(p, q) }) {
				t.Errorf("%s meets, but is part of none of %v", name(p), l)
			}
		}
	})
	if shorter < 50 {
		t.Errorf("only %d", shorter)
	}
}

// isPart says whether p is q, or q without some sides at both ends.
func isPart(p, q api.Pairing) bool {
	before, behind := p.A.From-q.A.From, q.A.To-p.A.To
	return before >= 0 && behind >= 0 && q.B.To-p.B.To == before && p.B.From-q.B.From == behind
}

// TestAllMeet is C8 and C9 of outlines of which nothing is known: all pairings meet, and the maximal ones reach an end of an outline on either side.
func TestAllMeet(t *testing.T) {
	for _, c := range [][2]int{{3, 3}, {3, 16}, {16, 3}, {16, 16}, {7, 5}} {
		a, b := api.Outline{Corners: c[0]}, api.Outline{Corners: c[1]}
		var want []api.Pairing
		for _, p := range pairings(a, b) {
			if (p.A.From == 0 || p.B.To == c[1]) && (p.A.To == c[0] || p.B.From == 0) {
				want = append(want, p)
			}
		}
		l, e := edge.Maximal(a, b)
		wantList(t, "Maximal", l, e, want...)
		n, e := edge.Longest(a, b)
		wantList(t, "Longest", []int{n}, e, min(c[0], c[1]))
		for _, n := range []int{1, 2, min(c[0], c[1]), min(c[0], c[1]) + 1} {
			l, e := edge.Pairs(a, b, n)
			want := slices.DeleteFunc(pairings(a, b), func(p api.Pairing) bool { return sides(p) != n })
			wantList(t, "Pairs", l, e, want...)
			ordered := slices.IsSortedFunc(l, func(p, q api.Pairing) int {
				return cmp.Or(cmp.Compare(p.A.From, q.A.From), cmp.Compare(p.B.From, q.B.From))
			})
			if !ordered {
				t.Errorf("Pairs of %d sides: %v", n, l)
			}
		}
	}
}

// TestExamplePairs is the row of the chapter's section 'Examples'.
func TestExamplePairs(t *testing.T) {
	a, b := first(), second()
	l, e := edge.Pairs(a, b, 1)
	wantList(t, "Pairs", l, e, pairing(0, 1, 1, 2), pairing(1, 2, 0, 1))
	l, e = edge.Pairs(a, b, 2)
	wantList(t, "Pairs", l, e, pairing(0, 2, 0, 2))
	n, e := edge.Longest(a, b)
	wantList(t, "Longest", []int{n}, e, 2)
	l, e = edge.Maximal(a, b)
	wantList(t, "Maximal", l, e, pairing(0, 2, 0, 2))
	// Their directions clash, but neither of their sides does alone.
	l, e = edge.Maximal(a, turned())
	wantList(t, "Maximal", l, e, pairing(0, 1, 1, 2), pairing(1, 2, 0, 1))
}

// TestFlawed is P3.7: an outline that contradicts itself, in its ways or in its turns, meets none.
func TestFlawed(t *testing.T) {
	d := dice(9)
	for range 200 {
		good := d.anyOutline()
		if _, is, _ := edge.Flaw(good); is {
			continue
		}
		turns := d.below(2) == 0
		bad, _ := edge.With(api.Outline{Corners: 4}, turns, bound(0, 3, 5, 1))
		bad, _ = edge.With(bad, turns, bound(3, 0, -6, 2))
		_, is, e := edge.Flaw(bad)
		wantBool(t, "Flaw", is, e, true)
		for _, two := range [][2]api.Outline{{good, bad}, {bad, good}} {
			for n := 1; n <= 5; n++ {
				l, e := edge.Pairs(two[0], two[1], n)
				wantList(t, "Pairs of a flaw", l, e)
			}
			n, e := edge.Longest(two[0], two[1])
			wantList(t, "Longest of a flaw", []int{n}, e, 0)
			l, e := edge.Maximal(two[0], two[1])
			wantList(t, "Maximal of a flaw", l, e)
			for _, p := range pairings(two[0], two[1]) {
				f, is, e := edge.Clash(two[0], two[1], p)
				wantBool(t, "Clash of a flaw", is, e, true)
				if is, _ := edge.CheckClash(two[0], two[1], p, f); !is {
					t.Errorf("Clash %s: %v", name(p), f)
				}
			}
		}
	}
}

// TestSearchOrder is the order of the errors of the functions that look for pairings.
func TestSearchOrder(t *testing.T) {
	large := api.Outline{Corners: 3, Ways: many(300), Turns: many(300)}
	for what, ask := range searches() {
		for _, x := range refused() {
			wantErr(t, what+", a: "+x.name, ask(x.o, api.Outline{}, 1), x.e)
			wantErr(t, what+", a: "+x.name, ask(x.o, large, 0), x.e)
			wantErr(t, what+", b: "+x.name, ask(large, x.o, 1), x.e)
			wantErr(t, what+", b: "+x.name, ask(first(), x.o, 0), x.e)
		}
		wantErr(t, what+", both", ask(api.Outline{Corners: 3, Ways: many(401)}, api.Outline{}, 1), api.ErrLimit)
	}
}
