package join_test

import (
	"fmt"
	"slices"
	"testing"

	"conjoin/api"
	"conjoin/edge"
	"conjoin/join"
	"conjoin/profile"
	"conjoin/sherd"
)

func TestExamplesOfWrong(t *testing.T) {
	f := sample(t)
	want(t, "sound", all(join.Sound(f, 2, 1)), all(api.Wrong{}, api.OK))
	want(t, "colours", all(join.Sound(f, 4, 3)), all(api.Wrong{Kind: api.WrongColour, A: 1, B: 3}, api.OK))
	want(t, "completed", all(join.Completed(f, 2, 1)), all(api.Fit{Word: "rb"}, api.OK))
	want(t, "not completed", all(join.Completed(f, 4, 1)), all(api.Fit{}, api.ErrWrong))
	g := filesOf(t, jars, jarItems(), jarClaims()[:2]...)
	want(t, "twice", all(join.Would(g, record(t, "25 5 beside 1 3 0 1 0 1"))), all(api.Wrong{Kind: api.WrongTwice, A: 21, B: 25}, api.OK))
	want(t, "colours", all(join.Would(g, record(t, "25 5 beside 1 3 1 2 0 1"))), all(api.Wrong{Kind: api.WrongColour, A: 1, B: 3}, api.OK))
}

// bench are files whose sherds 1 to 5, of 4 corners, have no foot, with some items and claims more; the claims are confirmed.
func bench(t *testing.T, items, claims []string) api.Files {
	t.Helper()
	var l []string
	for i := range 5 {
		l = append(l, fmt.Sprintf("%d 0 sherd red 1 1 4", i+1))
	}
	for i := range claims {
		var id int
		fmt.Sscan(claims[i], &id)
		claims = append(claims, fmt.Sprintf("%d 0 confirm %d", id+1000, id))
	}
	return filesOf(t, manyTypes, append(l, items...), claims...)
}

// TestEachWrong is what is wrong with a group, each kind alone, and which one is the first one.
func TestEachWrong(t *testing.T) {
	feet := []string{"6 0 sherd red 1 1 4 foot", "7 0 sherd red 1 1 4 foot", "8 0 sherd blue 1 1 4", "9 0 sherd grey 1 1 4 foot", "10 0 sherd pink 1 1 4"}
	for name, c := range map[string]struct {
		items, claims []string
		id            int
		want          api.Wrong
	}{
		"sound":                              {nil, []string{"21 0 beside 1 2 0 1 0 1", "22 0 beside 2 3 1 2 0 1"}, 1, api.Wrong{}},
		"another ware":                       {feet, []string{"22 0 beside 1 8 0 1 0 1", "21 0 beside 1 2 1 2 0 1", "23 0 beside 9 8 0 1 1 2"}, 1, api.Wrong{Kind: 2, A: 22}},
		"another ware, by the first Id":      {feet, []string{"23 0 beside 1 8 0 1 0 1", "22 0 beside 9 8 0 1 1 2"}, 1, api.Wrong{Kind: 2, A: 22}},
		"another ware in another group":      {feet, []string{"22 0 beside 1 8 0 1 0 1", "21 0 beside 3 2 1 2 0 1"}, 3, api.Wrong{}},
		"ways":                               {[]string{"11 0 way 1 0 1 1 4", "12 0 way 2 0 1 5 9", "13 0 way 3 3 4 5 5"}, []string{"22 0 beside 1 2 0 1 0 1", "21 0 beside 3 2 3 4 0 1"}, 1, api.Wrong{Kind: 3, A: 22}},
		"ways, by the first Id":              {[]string{"11 0 way 1 0 1 1 4", "12 0 way 2 0 1 5 9", "13 0 way 3 3 4 10 15"}, []string{"22 0 beside 1 2 0 1 0 1", "21 0 beside 3 2 3 4 0 1"}, 1, api.Wrong{Kind: 3, A: 21}},
		"ways that meet":                     {[]string{"11 0 way 1 0 1 1 5", "12 0 way 2 0 1 5 9"}, []string{"22 0 beside 1 2 0 1 0 1"}, 1, api.Wrong{}},
		"ways are gone through backwards":    {[]string{"11 0 way 1 0 1 1 4", "12 0 way 2 0 1 5 9"}, []string{"22 0 beside 1 2 0 2 0 2"}, 1, api.Wrong{}},
		"ways, of a longer stretch":          {[]string{"11 0 way 1 0 1 1 4", "12 0 way 2 1 2 5 9"}, []string{"22 0 beside 1 2 0 2 0 2"}, 1, api.Wrong{Kind: 3, A: 22}},
		"turns":                              {[]string{"11 0 turn 1 0 1 10 20", "12 0 turn 2 0 1 -20 -10"}, []string{"22 0 below 1 2 0 2 0 2"}, 1, api.Wrong{}},
		"turns that do not meet":             {[]string{"11 0 turn 1 0 1 10 20", "12 0 turn 2 0 1 10 20"}, []string{"22 0 below 1 2 0 2 0 2"}, 2, api.Wrong{Kind: 3, A: 22}},
		"doubtful ways, of no join":          {[]string{"11 0 way 1 0 1 1 4", "12 0 way 1 0 1 5 9"}, nil, 1, api.Wrong{}},
		"doubtful ways":                      {[]string{"11 0 way 1 0 1 1 4", "12 0 way 1 0 1 5 9"}, []string{"22 0 beside 1 2 2 3 0 1"}, 1, api.Wrong{Kind: 3, A: 22}},
		"twice":                              {nil, []string{"23 0 beside 1 2 0 2 0 2", "22 0 beside 3 1 0 1 1 2", "21 0 beside 3 2 1 2 2 3"}, 1, api.Wrong{Kind: 4, A: 22, B: 23}},
		"twice, the same sherds":             {nil, []string{"21 0 beside 1 2 0 1 0 1", "22 0 beside 2 1 0 1 1 2"}, 1, api.Wrong{Kind: 4, A: 21, B: 22}},
		"twice, by A and then by B":          {nil, []string{"21 0 beside 1 2 0 1 0 1", "22 0 beside 1 3 1 2 0 1", "23 0 beside 1 4 1 2 0 1", "24 0 beside 2 5 0 1 0 1"}, 1, api.Wrong{Kind: 4, A: 21, B: 24}},
		"sides of two sherds are not shared": {nil, []string{"21 0 beside 1 2 0 1 1 2", "22 0 beside 1 2 1 2 0 1"}, 1, api.Wrong{}},
		"heights":                            {nil, []string{"21 0 beside 1 2 0 1 1 2", "22 0 below 1 2 1 2 0 1"}, 1, api.Wrong{Kind: 5}},
		"heights by a foot":                  {feet, []string{"21 0 below 6 2 0 1 1 2"}, 2, api.Wrong{Kind: 5}},
		"a foot below":                       {feet, []string{"21 0 below 2 6 0 1 1 2"}, 2, api.Wrong{}},
		"a doubtful colour":                  {[]string{"11 0 colour 3 1 4", "12 0 colour 3 5 9", "13 0 colour 2 5 6", "14 0 colour 2 7 8"}, []string{"21 0 beside 1 2 0 1 1 2", "22 0 beside 2 3 0 1 1 2"}, 1, api.Wrong{Kind: 6, A: 2}},
		"a doubtful colour before two":       {[]string{"11 0 colour 3 1 4", "12 0 colour 3 5 9", "13 0 colour 2 5 6", "14 0 colour 1 7 8"}, []string{"21 0 beside 1 2 0 1 1 2", "22 0 beside 2 3 0 1 1 2"}, 1, api.Wrong{Kind: 6, A: 3}},
		"a doubtful colour of one":           {[]string{"11 0 colour 3 1 4", "12 0 colour 3 5 9"}, nil, 3, api.Wrong{Kind: 6, A: 3}},
		"two colours":                        {[]string{"11 0 colour 1 1 4", "12 0 colour 3 5 9", "13 0 colour 2 4 9"}, []string{"21 0 beside 1 2 0 1 1 2", "22 0 beside 2 3 0 1 1 2"}, 2, api.Wrong{Kind: 6, A: 1, B: 3}},
		"two colours, by A and then by B":    {[]string{"11 0 colour 1 10 20", "12 0 colour 2 15 16", "13 0 colour 3 18 30", "14 0 colour 4 25 40"}, []string{"21 0 beside 1 2 0 1 1 2", "22 0 beside 2 3 0 1 1 2", "23 0 beside 3 4 0 1 1 2"}, 4, api.Wrong{Kind: 6, A: 1, B: 4}},
		"colours that touch":                 {[]string{"11 0 colour 1 1 5", "12 0 colour 2 5 9"}, []string{"21 0 beside 1 2 0 1 1 2"}, 2, api.Wrong{}},
		"two feet":                           {feet, []string{"22 0 beside 7 2 0 1 1 2", "21 0 beside 6 2 0 1 0 1"}, 2, api.Wrong{Kind: 7, A: 6, B: 7}},
		"curves":                             {[]string{"11 0 curve 1 ab", "12 0 curve 2 rs"}, []string{"21 0 beside 1 2 0 1 1 2"}, 2, api.Wrong{Kind: 8}},
		"curves below":                       {[]string{"11 0 curve 1 ab", "12 0 curve 2 rs"}, []string{"21 0 beside 1 2 0 1 1 2", "22 0 below 3 2 0 1 0 1"}, 2, api.Wrong{Kind: 8, A: 1}},
		"doubtful curves of one":             {[]string{"11 0 curve 1 ab", "12 0 curve 1 rs"}, nil, 1, api.Wrong{Kind: 8}},
		"curves of three":                    {[]string{"11 0 curve 1 ab", "12 0 curve 2 br", "13 0 curve 3 ar"}, []string{"21 0 beside 1 2 0 1 1 2", "22 0 beside 2 3 0 1 0 1"}, 2, api.Wrong{Kind: 8}},
		"two rings without curves":           {[]string{"11 0 curve 1 ab", "12 0 curve 1 rs", "13 0 curve 2 ab", "14 0 curve 2 rs"}, []string{"21 0 below 2 1 0 1 0 1"}, 2, api.Wrong{Kind: 8}},
		"no profile":                         {[]string{"11 0 curve 1 b", "12 0 curve 2 r"}, []string{"21 0 below 1 2 0 1 1 2"}, 2, api.Wrong{Kind: 9}},
		"a profile":                          {[]string{"11 0 curve 2 b", "12 0 curve 1 r"}, []string{"21 0 below 1 2 0 1 1 2"}, 2, api.Wrong{}},
		"a letter of no profile":             {[]string{"11 0 curve 2 z"}, nil, 2, api.Wrong{Kind: 9}},
		"no type of the ware":                {feet, nil, 10, api.Wrong{Kind: 9}},
		"a type of another ware":             {append(feet, "11 0 curve 8 z"), nil, 8, api.Wrong{Kind: 9}},
		"a sound sherd of another ware":      {feet, nil, 8, api.Wrong{}},
	} {
		want(t, name, all(join.Sound(bench(t, c.items, c.claims), 0, c.id)), all(c.want, api.OK))
	}
}

// TestTooManyBounds is that a join cannot meet if edge.Meets returns an error: here there are too many bounds for it.
func TestTooManyBounds(t *testing.T) {
	f := bench(t, nil, []string{"21 0 beside 1 2 0 1 1 2"})
	for i := range 250 {
		id := 1 + i/125
		f.Items = append(f.Items, api.Item{Id: 100 + i, Kind: 2, Sherd: id, To: 4, Low: 4, High: 5000})
		if i == 0 {
			want(t, "few bounds", all(join.Sound(f, 0, 1)), all(api.Wrong{}, api.OK))
		}
	}
	a, _ := sherd.Outline(f.Items, 0, 1)
	b, _ := sherd.Outline(f.Items, 0, 2)
	_, e := edge.Meets(a, b, api.Pairing{A: f.Claims[0].SideA, B: f.Claims[0].SideB})
	wantErr(t, "Meets", e, api.ErrLimit)
	want(t, "many bounds", all(join.Sound(f, 0, 1)), all(api.Wrong{Kind: 3, A: 21}, api.OK))
	want(t, "many bounds of others", all(join.Sound(f, 0, 3)), all(api.Wrong{}, api.OK))
}

// TestSound is E8, and Completed of E7, against the oracle.
func TestSound(t *testing.T) {
	var seen [10]int
	several := 0
	eachGroup(t, 500, func(w world, id int, g []int) {
		wrong := w.wrong(g)
		seen[wrong.Kind]++
		want(t, w, all(join.Sound(w.Files, w.day, id)), all(wrong, api.OK))
		if wrong.Kind != 0 {
			want(t, w, all(join.Completed(w.Files, w.day, id)), all(api.Fit{}, api.ErrWrong))
			return
		}
		if len(g) > 2 {
			several++
		}
		heights, _ := w.heights(g)
		fit, _, _ := profile.Complete(w.Types, w.sherd(id).Ware, w.rings(g, heights))
		want(t, w, all(join.Completed(w.Files, w.day, id)), all(fit, api.OK))
	})
	seen[api.WrongMany] = 1000 // TestManySherds has these
	if slices.Min(seen[:]) < 20 || several < 50 {
		t.Errorf("what was wrong: %v, and %d sherds of sound groups of more than two", seen, several)
	}
}

// TestFirstWrong is P5.3.
func TestFirstWrong(t *testing.T) {
	eachGroup(t, 200, func(w world, id int, g []int) {
		wrong, _ := join.Sound(w.Files, w.day, id)
		joins := w.joinsOf(g)
		alone := []uint8{0, api.WrongColour, api.WrongCurve, api.WrongProfile}
		if len(joins) == 0 && (!slices.Contains(alone, wrong.Kind) || wrong.Kind == api.WrongColour && wrong != api.Wrong{Kind: wrong.Kind, A: id}) {
			t.Errorf("%v: %v of the sherd %d, which is alone", w, wrong, id)
		}
		if wrong.Kind != 0 {
			return
		}
		heights, e := join.Heights(w.Files, w.day, id)
		wantErr(t, "Heights of a sound group", e, api.OK)
		rings, e := join.Rings(w.Files, w.day, id)
		wantErr(t, "Rings of a sound group", e, api.OK)
		fit, e := join.Completed(w.Files, w.day, id)
		wantErr(t, "Completed of a sound group", e, api.OK)
		if ok, e := profile.CheckFit(w.Types, w.sherd(id).Ware, rings, fit); !ok || e != api.OK || len(heights) != len(g) {
			t.Errorf("%v: %v is no fit of %v, with the heights %v", w, fit, rings, heights)
		}
		p, e := join.Part(w.Files, w.day, id)
		if a, _ := w.feet(g); e != api.OK || p.Span.Low > p.Span.High || a != 0 {
			t.Errorf("%v: the part %v, error %d", w, p, e)
		}
		used := map[[2]int]bool{}
		for _, x := range joins {
			if !w.meets(x) {
				t.Errorf("%v: the join %d of a sound group does not meet", w, x.Id)
			}
			for _, id := range g {
				for _, i := range sidesOf(x, id) {
					if used[[2]int{id, i}] {
						t.Errorf("%v: the side %d of %d is in two joins", w, i, id)
					}
					used[[2]int{id, i}] = true
				}
			}
		}
	})
}

// TestWouldInOrder is the order of the errors of Would.
func TestWouldInOrder(t *testing.T) {
	f := sample(t)
	for name, c := range map[string]struct {
		x    api.Claim
		want api.Errno
	}{
		"not well-formed":                 {api.Claim{}, api.ErrArg},
		"twice, and of no sherd":          {record(t, "24 4 beside 8 9 0 1 0 1"), api.ErrTwice},
		"too early, and of no sherd":      {record(t, "25 3 beside 8 9 0 1 0 1"), api.ErrTime},
		"a record of none":                {record(t, "25 4 drop 22"), api.ErrNone},
		"a record of another kind":        {record(t, "25 4 drop 21"), api.ErrArg},
		"a second confirmation":           {record(t, "25 4 confirm 21"), api.ErrTwice},
		"a void":                          {record(t, "25 4 void 21"), api.ErrArg},
		"A is not known":                  {record(t, "25 4 beside 9 1 0 1 0 1"), api.ErrSherd},
		"B is not known, and A too short": {record(t, "25 4 beside 1 9 4 5 0 1"), api.ErrSherd},
		"B is an item":                    {record(t, "25 4 below 1 4 0 1 0 1"), api.ErrSherd},
		"A too short":                     {record(t, "25 4 beside 1 2 4 5 4 5"), api.ErrArg},
		"B too short":                     {record(t, "25 4 beside 2 1 4 5 4 5"), api.ErrArg},
		"both long enough":                {record(t, "25 4 beside 2 1 4 5 3 4"), api.OK},
	} {
		wrong, e := join.Would(f, c.x)
		wantErr(t, name, e, c.want)
		if e != api.OK && wrong != (api.Wrong{}) {
			t.Errorf("%s: %v beside an error", name, wrong)
		}
	}
	// What is known on another day than that of the claim does not matter.
	g := filesOf(t, jars, []string{"1 0 sherd red 1 1 4", "2 0 sherd red 1 1 4", "3 5 sherd red 1 1 4", "4 6 void 2", "5 7 colour 1 0 0", "6 7 colour 3 1 1"})
	for line, c := range map[string]struct {
		wrong api.Wrong
		e     api.Errno
	}{
		"9 0 beside 1 2 0 1 0 1": {api.Wrong{}, api.OK}, "9 4 beside 1 3 0 1 0 1": {api.Wrong{}, api.ErrSherd}, "9 5 beside 1 3 0 1 0 1": {api.Wrong{}, api.OK}, "9 5 beside 2 1 0 1 0 1": {api.Wrong{}, api.OK},
		"9 6 beside 2 1 0 1 0 1": {api.Wrong{}, api.ErrSherd}, "9 6 beside 3 1 0 1 0 1": {api.Wrong{}, api.OK}, "9 7 beside 3 1 0 1 0 1": {api.Wrong{Kind: 6, A: 1, B: 3}, api.OK},
	} {
		want(t, line, all(join.Would(g, record(t, line))), all(c.wrong, c.e))
	}
	// A claim with a lesser Id than another one stands before it.
	h := filesOf(t, jars, jarItems(), jarClaims()[:2]...)
	want(t, "a lesser Id", all(join.Would(h, record(t, "20 5 beside 1 3 0 1 0 1"))), all(api.Wrong{Kind: 4, A: 20, B: 21}, api.OK))
	// The last record that has room can be a join.
	full := h
	for i := range 197 {
		full.Claims = append(full.Claims, api.Claim{Id: 1000 + i, Known: 2, Kind: 1, A: 1, B: 2, SideA: api.Stretch{To: 1}, SideB: api.Stretch{To: 1}})
	}
	want(t, "the last record", all(join.Would(full, record(t, "20 5 beside 1 3 0 1 0 1"))), all(api.Wrong{Kind: 4, A: 20, B: 21}, api.OK))
	full.Claims = append(full.Claims, api.Claim{Id: 1200, Known: 2, Kind: 5, Of: 21})
	want(t, "no room", all(join.Would(full, record(t, "20 5 beside 1 3 0 1 0 1"))), all(api.Wrong{}, api.ErrLimit))
	want(t, "no room", all(join.Reached(full, record(t, "20 5 drop 21"))), all([]int{}, api.ErrLimit))
}

// TestWould is Would of E11 and P5.7, with claims by dice.
func TestWould(t *testing.T) {
	d := newDice(6)
	var seen [10]int
	errors := map[api.Errno]int{}
	eachFiles(t, 6000, func(f api.Files) {
		if len(f.Items) == 0 {
			return
		}
		day := 0
		if n := len(f.Claims); n > 0 {
			day = f.Claims[n-1].Known
		}
		x := d.anyClaim(f.Items, f.Claims, day+d.IntN(2))
		w := worldOf(f, x.Known, x)
		claims, e := join.Append(f.Claims, x)
		a, b := w.sherd(x.A), w.sherd(x.B)
		switch {
		case e != api.OK:
		case x.Kind > 2:
			e = api.ErrArg
		case a.Id == 0 || b.Id == 0:
			e = api.ErrSherd
		case x.SideA.To > a.Corners || x.SideB.To > b.Corners:
			e = api.ErrArg
		}
		errors[e]++
		if e != api.OK {
			want(t, x, all(join.Would(f, x)), all(api.Wrong{}, e))
			return
		}
		wrong := w.wrong(w.group(x.A))
		seen[wrong.Kind]++
		want(t, w, all(join.Would(f, x)), all(wrong, api.OK))
		f.Claims = append(claims, api.Claim{Id: 1000, Known: x.Known, Kind: api.ClaimConfirm, Of: x.Id})
		want(t, w, all(join.Sound(f, x.Known, x.A)), all(wrong, api.OK))
	})
	for _, kind := range []int{0, 2, 3, 4, 5, 6, 7, 8, 9} {
		if seen[kind] < 10 {
			t.Errorf("what would be wrong: %v", seen)
		}
	}
	for _, e := range []api.Errno{api.ErrTwice, api.ErrArg, api.ErrSherd, api.ErrNone} {
		if errors[e] < 20 {
			t.Errorf("errors: %v", errors)
		}
	}
}
