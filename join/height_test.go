package join_test

import (
	"fmt"
	"slices"
	"testing"

	"conjoin/api"
	"conjoin/join"
)

// chain are files with so many sherds, of which each is joined with the next one, by a kind of claims.
func chain(t *testing.T, n int, kind string, feet ...int) api.Files {
	t.Helper()
	var items, claims []string
	for i := range n {
		line := fmt.Sprintf("%d 0 sherd red 1 1 3", i+1)
		if slices.Contains(feet, i+1) {
			line += " foot"
		}
		items = append(items, line)
	}
	for i := range n - 1 {
		claims = append(claims, fmt.Sprintf("%d 0 %s %d %d 0 1 1 2", 1001+i, kind, i+1, i+2), fmt.Sprintf("%d 0 confirm %d", 2001+i, 1001+i))
	}
	return filesOf(t, "type long red 1 12\nrim a\nbase a\nafter a a\n", items, claims...)
}

func TestExamplesOfHeights(t *testing.T) {
	f := sample(t)
	want(t, "heights", all(join.Heights(f, 2, 1)), all([]int{0, 1}, api.OK))
	want(t, "heights", all(join.Heights(f, 2, 2)), all([]int{0, 1}, api.OK))
	want(t, "heights of one sherd", all(join.Heights(f, 1, 2)), all([]int{0}, api.OK))
	want(t, "heights", all(join.Heights(f, 4, 3)), all([]int{0, 1, 1}, api.OK))
	want(t, "rings", all(join.Rings(f, 2, 1)), all([]api.Ring{{At: 0, Set: "r"}, {At: 1, Set: "bs"}}, api.OK))
	want(t, "rings of one sherd", all(join.Rings(f, 3, 3)), all([]api.Ring{{At: 0, Set: "abcdefghijklmnopqrstuvwxyz"}}, api.OK))
	want(t, "no doubt", all(join.HeightDoubt(f, 4, 1)), all([]int{}, false, api.OK))
	want(t, "no doubt of one sherd", all(join.HeightDoubt(f, 1, 2)), all([]int{}, false, api.OK))
	g := sample(t, "26 5 below 2 1 0 1 2 3", "27 5 confirm 26")
	want(t, "doubt", all(join.HeightDoubt(g, 5, 1)), all([]int{2, 26}, true, api.OK))
	want(t, "doubt", all(join.HeightDoubt(g, 5, 3)), all([]int{2, 26}, true, api.OK))
	want(t, "heights in doubt", all(join.Heights(g, 5, 1)), all([]int{}, api.ErrHeight))
	want(t, "rings in doubt", all(join.Rings(g, 5, 1)), all([]api.Ring{}, api.ErrHeight))
}

// TestFeet is that no sherd is below the first one with a foot; where the others with a foot are does not matter.
func TestFeet(t *testing.T) {
	items := []string{"1 0 sherd red 1 1 4", "2 0 sherd red 1 1 4 foot", "3 0 sherd red 1 1 4 foot", "4 0 sherd red 1 1 4"}
	claims := []string{"11 0 below 1 2 0 1 0 1", "12 0 below 3 1 0 1 1 2", "13 0 beside 4 2 0 1 1 2", "21 1 confirm 11", "22 2 confirm 12", "23 2 confirm 13"}
	f := filesOf(t, jars, items, claims...)
	want(t, "the second foot above all", all(join.Heights(f, 2, 1)), all([]int{1, 2, 0, 2}, api.OK))
	want(t, "no doubt", all(join.HeightDoubt(f, 2, 1)), all([]int{}, false, api.OK))
	g := filesOf(t, jars, items, "11 0 below 1 2 0 1 0 1", "12 0 below 2 3 2 3 1 2", "21 1 confirm 11", "22 2 confirm 12")
	want(t, "the second foot below the first one", all(join.Heights(g, 2, 1)), all([]int{}, api.ErrHeight))
	want(t, "doubt", all(join.HeightDoubt(g, 2, 3)), all([]int{2, 12}, true, api.OK))
	want(t, "before the second one is joined", all(join.Heights(g, 1, 2)), all([]int{0, 1}, api.OK))
	// The doubt of a circle of joins needs no foot, and leaves out from the last one on.
	c := filesOf(t, jars, []string{"1 0 sherd red 1 1 4", "2 0 sherd red 1 1 4", "3 0 sherd red 1 1 4", "5 0 sherd red 1 1 4 foot"},
		"30 0 below 1 2 0 1 0 1", "31 0 beside 2 3 1 2 1 2", "32 0 beside 3 1 2 3 2 3", "33 0 below 2 1 3 4 3 4", "29 0 beside 5 1 0 1 1 2",
		"40 1 confirm 30", "41 1 confirm 31", "42 1 confirm 32", "43 2 confirm 33", "44 3 confirm 29")
	want(t, "a circle", all(join.HeightDoubt(c, 1, 1)), all([]int{30, 31, 32}, true, api.OK))
	want(t, "two circles", all(join.HeightDoubt(c, 2, 3)), all([]int{30, 31, 32}, true, api.OK))
	// 5 is beside 1, which is above 2 by 30 alone.
	want(t, "a foot too", all(join.HeightDoubt(c, 3, 5)), all([]int{5, 29, 30}, true, api.OK))
	// A join with the number of the sherd with the foot is left out with it.
	s := filesOf(t, jars, []string{"7 0 sherd red 1 1 4 foot", "8 0 sherd red 1 1 4"}, "7 0 below 7 8 0 1 0 1", "9 0 confirm 7", "6 0 beside 7 8 1 2 1 2", "5 0 confirm 6")
	want(t, "one number for both", all(join.HeightDoubt(s, 0, 8)), all([]int{7}, true, api.OK))
}

// TestManySherds is what is said of groups with 40 sherds, and with 41.
func TestManySherds(t *testing.T) {
	f := chain(t, 40, "beside")
	want(t, "40 sherds", all(join.Sound(f, 0, 1)), all(api.Wrong{}, api.OK))
	want(t, "40 heights", all(join.Heights(f, 0, 40)), all(make([]int, 40), api.OK))
	want(t, "no doubt of 40", all(join.HeightDoubt(f, 0, 40)), all([]int{}, false, api.OK))
	want(t, "the ring of 40", all(join.Rings(f, 0, 1)), all([]api.Ring{{At: 0, Set: "abcdefghijklmnopqrstuvwxyz"}}, api.OK))
	p, e := join.Part(f, 0, 7)
	if e != api.OK || len(p.Sherds) != 40 || len(p.Rests) != 78 {
		t.Errorf("Part of 40 sherds: %v, error %d", p, e)
	}
	g := chain(t, 41, "beside")
	want(t, "41 sherds", all(join.Sound(g, 0, 41)), all(api.Wrong{Kind: 1}, api.OK))
	for name, e := range errorsOf(g, 0, 41, record(t, "5000 0 below 1 41 1 2 2 3")) {
		if slices.Contains([]string{"Heights", "HeightDoubt", "Rings", "Completed", "Part"}, name) {
			wantErr(t, name, e, api.ErrWrong)
		} else {
			wantErr(t, name, e, api.OK)
		}
	}
	want(t, "parts", all(join.Parts(g, 0, "red")), all([]api.Part{}, api.OK))
	want(t, "bare of 41", all(join.Bare(g, 0, 41)), all([]int{0, 2}, api.OK))
	if l, e := join.Rests(g, 0, 1); len(l) != 80 || e != api.OK {
		t.Errorf("Rests of 41: %v, error %d", l, e)
	}
	// A group is not large because there are many other sherds.
	for i := range 41 {
		f.Items = append(f.Items, api.Item{Id: 100 + i, Kind: 1, Ware: "red", Pit: 1, Layer: 1, Corners: 3})
	}
	want(t, "40 of 81 sherds", all(join.Sound(f, 0, 1)), all(api.Wrong{}, api.OK))
	want(t, "one of 81 sherds", all(join.Heights(f, 0, 140)), all([]int{0}, api.OK))
	// Nothing else matters of so many, not even that heights contradict each other.
	h := chain(t, 41, "below", 1)
	want(t, "41 sherds below the foot", all(join.Sound(h, 0, 1)), all(api.Wrong{Kind: 1}, api.OK))
	want(t, "their heights", all(join.Heights(h, 0, 1)), all([]int{}, api.ErrWrong))
	want(t, "their doubt", all(join.HeightDoubt(h, 0, 1)), all([]int{}, false, api.ErrWrong))
	x := record(t, "5000 0 beside 40 41 0 1 1 2")
	f.Items = append(f.Items, api.Item{Id: 41, Kind: 1, Ware: "blue", Pit: 1, Layer: 1, Corners: 3})
	want(t, "a 41st sherd", all(join.Would(f, x)), all(api.Wrong{Kind: 1}, api.OK))
}

// TestManyRings is that heights and rings go on beyond what profiles have.
func TestManyRings(t *testing.T) {
	f := chain(t, 40, "below", 40)
	heights, e := join.Heights(f, 0, 1)
	rings, err := join.Rings(f, 0, 1)
	if e != api.OK || err != api.OK || len(heights) != 40 || len(rings) != 40 {
		t.Fatalf("40 rings: %v, error %d, %v, error %d", heights, e, rings, err)
	}
	for i := range 40 {
		if heights[i] != i || rings[i] != (api.Ring{At: i, Set: "abcdefghijklmnopqrstuvwxyz"}) {
			t.Errorf("the ring %d: %d, %v", i, heights[i], rings[i])
		}
	}
	want(t, "40 rings", all(join.Sound(f, 0, 1)), all(api.Wrong{Kind: 9}, api.OK))
	for n, wrong := range map[int]api.Wrong{12: {}, 13: {Kind: 9}} {
		f := chain(t, n, "below", n)
		want(t, n, all(join.Sound(f, 0, 1)), all(wrong, api.OK))
		g := chain(t, n, "below", n-1)
		want(t, n, all(join.Sound(g, 0, 1)), all(api.Wrong{Kind: 5}, api.OK))
		want(t, n, all(join.HeightDoubt(g, 0, 1)), all([]int{n - 1, 1000 + n - 1}, true, api.OK))
	}
}

// TestHeights is E6, and P5.4 of heights, against the oracle.
func TestHeights(t *testing.T) {
	high, doubtful, footed := 0, 0, 0
	eachGroup(t, 500, func(w world, id int, g []int) {
		list, ok := w.heights(g)
		doubt, is := w.heightDoubt(g)
		if is == ok {
			t.Fatalf("%v: the oracle contradicts itself about %v", w, g)
		}
		e := api.OK
		if !ok {
			e = api.ErrHeight
			doubtful++
			if slices.Contains(doubt, w.footOf(g)) {
				footed++
			}
		}
		want(t, w, all(join.Heights(w.Files, w.day, id)), all(list, e))
		want(t, w, all(join.HeightDoubt(w.Files, w.day, id)), all(doubt, is, api.OK))
		if ok && slices.Max(list) > 1 {
			high++
		}
	})
	if high < 50 || doubtful < 200 || footed < 50 {
		t.Errorf("%d high, %d in doubt, %d by a foot", high, doubtful, footed)
	}
}

// TestHeightsOfJoins is P5.4: the heights of the sherds of joins, and what the records of HeightDoubt say alone.
func TestHeightsOfJoins(t *testing.T) {
	eachGroup(t, 150, func(w world, id int, g []int) {
		heights, e := join.Heights(w.Files, w.day, id)
		members, _ := join.GroupOf(w.Files, w.day, id)
		doubt, is, _ := join.HeightDoubt(w.Files, w.day, id)
		if is != (e == api.ErrHeight) || is && !w.contradict(g, doubt) {
			t.Errorf("%v: %v, error %d, and the doubt %v", w, heights, e, doubt)
		}
		if e != api.OK {
			return
		}
		at := map[int]int{}
		for i, id := range members {
			at[id] = heights[i]
		}
		if slices.Min(heights) != 0 {
			t.Errorf("%v: the heights %v", w, heights)
		}
		for _, x := range w.joinsOf(g) {
			if x.Kind == api.ClaimBeside && at[x.A] != at[x.B] || x.Kind == api.ClaimBelow && at[x.A]+1 != at[x.B] {
				t.Errorf("%v: the heights %v and the join %d", w, heights, x.Id)
			}
		}
	})
}

// TestRings is Rings of E7, against the oracle.
func TestRings(t *testing.T) {
	empty, several := 0, 0
	eachGroup(t, 300, func(w world, id int, g []int) {
		heights, ok := w.heights(g)
		if !ok {
			want(t, w, all(join.Rings(w.Files, w.day, id)), all([]api.Ring{}, api.ErrHeight))
			return
		}
		rings := w.rings(g, heights)
		want(t, w, all(join.Rings(w.Files, w.day, id)), all(rings, api.OK))
		if slices.ContainsFunc(rings, func(r api.Ring) bool { return r.Set == "" }) {
			empty++
		}
		if len(rings) > 1 {
			several++
		}
	})
	if empty < 20 || several < 200 {
		t.Errorf("%d with an empty set, %d of several rings", empty, several)
	}
}
