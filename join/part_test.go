package join_test

import (
	"fmt"
	"slices"
	"testing"

	"conjoin/api"
	"conjoin/join"
	"conjoin/sherd"
)

func TestExamplesOfParts(t *testing.T) {
	f := sample(t)
	p := api.Part{Sherds: []int{1, 2}, Span: api.Span{Low: 15, High: 20, LowBy: 12, HighBy: 11}, Foot: true, FootBy: 2, Rests: []int{21, 22}}
	one := api.Part{Sherds: []int{3}, Span: api.Span{Low: 30, High: 50, LowBy: 13, HighBy: 13}}
	want(t, "part", all(join.Part(f, 2, 1)), all(p, api.OK))
	want(t, "part", all(join.Part(f, 2, 2)), all(p, api.OK))
	want(t, "part", all(join.Part(f, 2, 3)), all(one, api.OK))
	want(t, "part of what is not sound", all(join.Part(f, 4, 1)), all(api.Part{}, api.ErrWrong))
	want(t, "parts", all(join.Parts(f, 2, "red")), all([]api.Part{p, one}, api.OK))
	want(t, "parts of none", all(join.Parts(f, 4, "red")), all([]api.Part{}, api.OK))
	for _, ware := range []string{"", "blue", "\xff", "Red", "re", "redd"} {
		want(t, ware, all(join.Parts(f, 2, ware)), all([]api.Part{}, api.OK))
	}
	want(t, "bare", all(join.Bare(f, 2, 1)), all([]int{1, 2, 3}, api.OK))
	want(t, "bare", all(join.Bare(f, 4, 2)), all([]int{0, 1, 4}, api.OK))
	want(t, "bare of a sherd alone", all(join.Bare(f, 3, 3)), all([]int{0, 1, 2, 3}, api.OK))
	want(t, "rests", all(join.Rests(f, 1, 1)), all([]int{}, api.OK))
	want(t, "rests", all(join.Rests(f, 4, 1)), all([]int{21, 22, 23, 24}, api.OK))
	again := sample(t, "25 5 void 22", "19 5 confirm 21")
	want(t, "rests of another confirmation", all(join.Rests(again, 5, 1)), all([]int{19, 21, 23, 24}, api.OK))
	want(t, "rests of the first one", all(join.Rests(again, 4, 1)), all([]int{21, 22, 23, 24}, api.OK))
}

// TestEndsOfSpans is that an end comes from the first sherd that has it, and from no record if nature has it.
func TestEndsOfSpans(t *testing.T) {
	claims := []string{"21 0 beside 5 2 0 1 0 1", "22 0 beside 2 3 1 2 0 1", "23 0 beside 3 4 1 2 0 1"}
	for name, c := range map[string]struct {
		items []string
		span  api.Span
	}{
		"by nature":          {nil, api.Span{High: 1000}},
		"by nature, as said": {[]string{"11 0 colour 2 0 1000", "12 0 colour 3 0 1000"}, api.Span{High: 1000}},
		"of two":             {[]string{"15 0 colour 3 5 9", "14 0 colour 2 5 9", "13 0 colour 5 5 9"}, api.Span{Low: 5, High: 9, LowBy: 14, HighBy: 14}},
		"of two, apart":      {[]string{"15 0 colour 3 5 9", "14 0 colour 2 4 9", "13 0 colour 5 5 8"}, api.Span{Low: 5, High: 8, LowBy: 15, HighBy: 13}},
		"low alone":          {[]string{"15 0 colour 4 5 1000", "14 0 colour 2 4 1000"}, api.Span{Low: 5, High: 1000, LowBy: 15}},
		"high alone":         {[]string{"15 0 colour 4 0 20", "14 0 colour 3 0 20"}, api.Span{High: 20, HighBy: 14}},
		"one colour":         {[]string{"15 0 colour 4 0 20", "14 0 colour 3 20 30"}, api.Span{Low: 20, High: 20, LowBy: 14, HighBy: 15}},
	} {
		f := bench(t, c.items, slices.Clone(claims))
		p, e := join.Part(f, 0, 4)
		want(t, name, all(p.Span, p.Foot, p.FootBy, e), all(c.span, false, 0, api.OK))
	}
}

// TestManyJoins is that a sherd can have as many joins as a register has room for.
func TestManyJoins(t *testing.T) {
	f := bench(t, nil, nil)
	for i := range 100 {
		f.Claims = append(f.Claims, api.Claim{Id: i + 1, Kind: 1, A: 1, B: 2 + i%4, SideA: api.Stretch{From: i % 3, To: i%3 + 1}, SideB: api.Stretch{To: 1}}, api.Claim{Id: 1000 + i, Kind: 3, Of: i + 1})
	}
	want(t, "a full register", all(join.Check(f.Claims)), all(0, api.OK))
	want(t, "bare", all(join.Bare(f, 0, 1)), all([]int{3}, api.OK))
	want(t, "twice", all(join.Sound(f, 0, 5)), all(api.Wrong{Kind: 4, A: 1, B: 4}, api.OK))
	if l, e := join.Rests(f, 0, 1); len(l) != 200 || e != api.OK {
		t.Errorf("Rests: %v, error %d", l, e)
	}
}

// TestParts is E9 and E10, against the oracle.
func TestParts(t *testing.T) {
	several, feet, wares := 0, 0, map[string]int{}
	eachWorld(t, 400, func(w world) {
		parts := map[string][]api.Part{}
		for _, g := range w.groups() {
			wrong := w.wrong(g)
			for _, id := range g {
				want(t, w, all(join.Rests(w.Files, w.day, id)), all(w.rests(g), api.OK))
				if wrong.Kind != 0 {
					want(t, w, all(join.Part(w.Files, w.day, id)), all(api.Part{}, api.ErrWrong))
				} else {
					want(t, w, all(join.Part(w.Files, w.day, id)), all(w.part(g), api.OK))
				}
			}
			if wrong.Kind != 0 {
				continue
			}
			ware := w.sherd(g[0]).Ware
			parts[ware] = append(parts[ware], w.part(g))
			wares[ware]++
			if len(g) > 1 {
				several++
			}
			if w.footOf(g) != 0 {
				feet++
			}
		}
		for _, ware := range []string{"red", "blue", "grey", ""} {
			want(t, w, all(join.Parts(w.Files, w.day, ware)), all(parts[ware], api.OK))
		}
	})
	if several < 100 || feet < 100 || wares["blue"] < 50 || wares["grey"] > 0 {
		t.Errorf("%d of several sherds, %d with a foot, wares %v", several, feet, wares)
	}
}

// TestSpans is P5.6.
func TestSpans(t *testing.T) {
	eachWorld(t, 150, func(w world) {
		seen := map[string]int{}
		for _, ware := range []string{"red", "blue", "grey"} {
			parts, _ := join.Parts(w.Files, w.day, ware)
			for _, p := range parts {
				seen[fmt.Sprint(p.Sherds)]++
				for _, id := range p.Sherds {
					s, e := sherd.Colour(w.Items, w.day, id)
					if e != api.OK || p.Span.Low < s.Low || p.Span.High > s.High || w.sherd(id).Ware != ware {
						t.Errorf("%v: the part %v of %s, with the colours %v of %d", w, p, ware, s, id)
					}
					rests, _ := join.Rests(w.Files, w.day, id)
					want(t, w, all(p.Rests), all(rests))
				}
			}
		}
		groups, _ := join.Groups(w.Files, w.day)
		for _, g := range groups {
			wrong, _ := join.Sound(w.Files, w.day, g[0])
			if n := seen[fmt.Sprint(g)]; n > 1 || n == 1 != (wrong.Kind == 0) {
				t.Errorf("%v: the group %v, with %v, is in Parts %d times", w, g, wrong, n)
			}
		}
	})
}

// TestSides is Bare of E10 and P5.8.
func TestSides(t *testing.T) {
	bare := 0
	eachGroup(t, 200, func(w world, id int, g []int) {
		l, e := join.Bare(w.Files, w.day, id)
		var free, taken []int
		for i := range w.sherd(id).Corners {
			if slices.ContainsFunc(w.joins, func(x api.Claim) bool { return slices.Contains(sidesOf(x, id), i) }) {
				taken = append(taken, i)
			} else {
				free = append(free, i)
			}
		}
		want(t, w, all(l, e), all(free, api.OK))
		if len(taken) > 0 && len(free) > 0 {
			bare++
		}
	})
	if bare < 200 {
		t.Errorf("only %d sherds with bare sides and others", bare)
	}
}
