package whole_test

import (
	"fmt"
	"math"
	"slices"
	"strings"
	"testing"

	"conjoin/api"
	"conjoin/join"
	"conjoin/oracle"
	"conjoin/profile"
	"conjoin/sherd"
	"conjoin/whole"
)

// jars have two rings or more, and are of the wares red and blue.
const jars = "type jar red 1 4\nrim rs\nbase bs\nafter r bs\nafter s bs\ntype pot blue 1 3\nrim ab\nbase ab\nafter a ab\nafter b ab\n"

// filesOf are files with the types of jars, and with lines, each of which has to be allowed.
func filesOf(t *testing.T, items []string, claims ...string) api.Files {
	t.Helper()
	types, fault := profile.ParseTypes(jars)
	f := api.Files{Types: types}
	for _, line := range items {
		x, e := sherd.Read(line)
		if e != api.OK {
			t.Fatalf("Read(%q): error %d", line, e)
		}
		f.Items = append(f.Items, x)
	}
	for _, line := range claims {
		x, e := join.Read(line)
		if e != api.OK {
			t.Fatalf("Read(%q): error %d", line, e)
		}
		f.Claims = append(f.Claims, x)
	}
	if e := join.CheckFiles(f); e != api.OK || fault.Err != api.OK {
		t.Fatalf("files of %q and %q: error %d, %v", items, claims, e, fault)
	}
	return f
}

// bench are files with two groups of red sherds, and one of blue ones that is not sound from day 4 on.
func bench(t *testing.T) api.Files {
	t.Helper()
	return filesOf(t, []string{
		"1 0 sherd red 1 1 4", "2 0 sherd red 1 1 5 foot", "3 0 sherd red 1 1 4", "4 0 sherd blue 1 1 4", "5 0 limit red 9", "6 0 limit blue 3",
		"11 1 colour 1 10 20", "12 1 colour 2 15 40", "13 1 colour 3 30 50", "14 3 limit red 2", "15 4 colour 4 1 2", "16 4 colour 4 3 4", "17 5 void 14", "18 6 void 5", "19 7 limit grey 1",
	}, "21 1 below 1 2 0 1 2 3", "22 2 confirm 21", "23 6 void 22")
}

func TestExamplesOfCollect(t *testing.T) {
	f := bench(t)
	one := api.Part{Sherds: []int{1}, Span: api.Span{Low: 10, High: 20, LowBy: 11, HighBy: 11}}
	two := api.Part{Sherds: []int{2}, Span: api.Span{Low: 15, High: 40, LowBy: 12, HighBy: 12}, Foot: true, FootBy: 2}
	three := api.Part{Sherds: []int{3}, Span: api.Span{Low: 30, High: 50, LowBy: 13, HighBy: 13}}
	both := api.Part{Sherds: []int{1, 2}, Span: api.Span{Low: 15, High: 20, LowBy: 12, HighBy: 11}, Foot: true, FootBy: 2, Rests: []int{21, 22}}
	blue := api.Part{Sherds: []int{4}, Span: api.Span{High: 1000}}
	for day, c := range map[int]api.Case{
		-1: {Ware: "red"},
		1:  {Ware: "red", Limit: 9, By: 5, Parts: []api.Part{one, two, three}},
		2:  {Ware: "red", Limit: 9, By: 5, Parts: []api.Part{both, three}},
		3:  {Ware: "red", Limit: 2, By: 14, Parts: []api.Part{both, three}},
		5:  {Ware: "red", Limit: 9, By: 5, Parts: []api.Part{both, three}},
		6:  {Ware: "red", Parts: []api.Part{one, two, three}},
	} {
		want(t, day, all(whole.Collect(f, day, "red")), all(c, api.OK))
	}
	want(t, "blue", all(whole.Collect(f, 3, "blue")), all(api.Case{Ware: "blue", Limit: 3, By: 6, Parts: []api.Part{blue}}, api.OK))
	want(t, "what is not sound", all(whole.Collect(f, 4, "blue")), all(api.Case{Ware: "blue", Limit: 3, By: 6}, api.OK))
	want(t, "a limit alone", all(whole.Collect(f, math.MaxInt, "grey")), all(api.Case{Ware: "grey", Limit: 1, By: 19}, api.OK))
	want(t, "nothing", all(whole.Collect(f, 3, "jar-2")), all(api.Case{Ware: "jar-2"}, api.OK))
	want(t, "no files", all(whole.Collect(api.Files{}, 3, "red")), all(api.Case{Ware: "red"}, api.OK))
	for _, ware := range []string{"", "Red", "9", "-red", "red ", "r\xff", strings.Repeat("r", 25)} {
		want(t, ware, all(whole.Collect(f, 3, ware)), all(api.Case{}, api.ErrArg))
	}
	want(t, "24 letters", all(whole.Collect(f, 3, strings.Repeat("r", 24))), all(api.Case{Ware: strings.Repeat("r", 24)}, api.OK))
}

// TestCollectErrors is that the error of the files comes first, then that of the ware, then that of many parts.
func TestCollectErrors(t *testing.T) {
	types, items, claims := bench(t), bench(t), bench(t)
	types.Types = append(types.Types, make([]api.Type, 12)...)
	items.Items = append(items.Items, items.Items[0])
	claims.Claims = append(claims.Claims, api.Claim{Id: 30, Known: 6, Kind: api.ClaimVoid, Of: 99})
	for e, f := range map[api.Errno]api.Files{api.ErrLimit: types, api.ErrTwice: items, api.ErrNone: claims} {
		for _, ware := range []string{"red", "Red", ""} {
			want(t, ware, all(whole.Collect(f, 3, ware)), all(api.Case{}, e))
		}
	}
	var lines []string
	for i := range 42 {
		lines = append(lines, fmt.Sprintf("%d %d sherd red 1 1 3", i+1, i/40))
	}
	f := filesOf(t, append(lines, "50 1 sherd blue 1 1 3"), "60 2 beside 1 2 0 1 0 1", "61 3 confirm 60", "62 4 beside 42 2 0 1 1 2", "63 4 confirm 62")
	for day, n := range map[int]int{0: 40, 1: 42, 2: 42, 3: 41, 4: 40} {
		c, e := whole.Collect(f, day, "red")
		if n > 40 {
			want(t, day, all(c, e), all(api.Case{}, api.ErrLimit))
		} else {
			want(t, day, all(len(c.Parts), e, whole.CheckCase(c)), all(n, api.OK, api.OK))
		}
		want(t, day, all(whole.Collect(f, day, "Red")), all(api.Case{}, api.ErrArg))
	}
	c, e := whole.Collect(f, 9, "blue")
	want(t, "blue", all(len(c.Parts), e), all(1, api.OK))
}

// anyItem is the line of an item of a day about one of the sherds 1 to 12.
func (d dice) anyItem(id, day int) string {
	ware := []string{"red", "red", "blue"}[d.IntN(3)]
	switch d.IntN(8) {
	case 0, 1, 2:
		return fmt.Sprintf("%d %d sherd %s 1 1 4%s", 1+d.IntN(12), day, ware, []string{"", "", " foot"}[d.IntN(3)])
	case 3, 4:
		low := d.IntN(5)
		return fmt.Sprintf("%d %d colour %d %d %d", id, day, 1+d.IntN(12), low, low+d.IntN(4))
	case 5:
		return fmt.Sprintf("%d %d curve %d %s", id, day, 1+d.IntN(12), []string{"ab", "rs", "bs", "r"}[d.IntN(4)])
	case 6:
		return fmt.Sprintf("%d %d limit %s %d", id, day, ware, 1+d.IntN(4))
	}
	return fmt.Sprintf("%d %d void %d", id, day, oracle.OneOf(d, 1+d.IntN(12), id-1, id-2))
}

// anyRecord is the line of a claim of a day, or of what is said of one before.
func (d dice) anyRecord(id, day int) string {
	if kind := d.IntN(7); kind > 1 {
		return fmt.Sprintf("%d %d %s %d", id, day, []string{"", "", "confirm", "confirm", "confirm", "drop", "void"}[kind], id-1-d.IntN(3))
	}
	from := d.IntN(4)
	return fmt.Sprintf("%d %d beside %d %d %d %d 0 1", id, day, 1+d.IntN(12), 1+d.IntN(12), from, from+1)
}

// anyFiles have of many records those that are allowed.
func (d dice) anyFiles(t *testing.T) api.Files {
	f := filesOf(t, nil)
	for i := range 45 {
		if x, e := sherd.Read(d.anyItem(100+i, i/9)); e == api.OK {
			if l, e := sherd.Append(f.Items, x); e == api.OK {
				f.Items = l
			}
		}
		if x, e := join.Read(d.anyRecord(200+i, i/9)); e == api.OK {
			if l, e := join.Append(f.Claims, x); e == api.OK {
				f.Claims = l
			}
		}
	}
	return f
}

// limitOf is the limit of a ware on a day: the last one that is not withdrawn.
func limitOf(f api.Files, day int, ware string) (limit, by int) {
	for _, x := range f.Items {
		isVoid := slices.ContainsFunc(f.Items, func(y api.Item) bool { return y.Kind == api.ItemVoid && y.Known <= day && y.Of == x.Id })
		if x.Kind == api.ItemLimit && x.Known <= day && x.Ware == ware && !isVoid {
			limit, by = x.Limit, x.Id
		}
	}
	return limit, by
}

// collected is the case of a ware on a day: each sound group of it, once.
func collected(f api.Files, day int, ware string) api.Case {
	c := api.Case{Ware: ware}
	c.Limit, c.By = limitOf(f, day, ware)
	groups, _ := join.Groups(f, day)
	for _, g := range groups {
		s, _ := sherd.SherdOf(f.Items, day, g[0])
		if p, e := join.Part(f, day, g[0]); e == api.OK && s.Ware == ware {
			c.Parts = append(c.Parts, p)
		}
	}
	return c
}

// knownOn are files without what is known later than a day.
func knownOn(f api.Files, day int) api.Files {
	f.Items = slices.DeleteFunc(slices.Clone(f.Items), func(x api.Item) bool { return x.Known > day })
	f.Claims = slices.DeleteFunc(slices.Clone(f.Claims), func(x api.Claim) bool { return x.Known > day })
	return f
}

// TestCollect is Collect of F1, and P6.8.
func TestCollect(t *testing.T) {
	d := newDice(8)
	parts, glued, limits := 0, 0, 0
	for range 100 {
		f := d.anyFiles(t)
		for day := -1; day < 6; day++ {
			for _, ware := range []string{"red", "blue"} {
				c := collected(f, day, ware)
				want(t, f, all(whole.Collect(f, day, ware)), all(c, api.OK))
				want(t, f, all(whole.Collect(knownOn(f, day), day, ware)), all(c, api.OK))
				want(t, f, all(whole.CheckCase(c)), all(api.OK))
				parts += len(c.Parts)
				limits += min(c.Limit, 1)
				for _, p := range c.Parts {
					glued += min(len(p.Rests), 1)
				}
			}
		}
	}
	if parts < 1000 || glued < 100 || limits < 100 {
		t.Errorf("%d parts, %d glued, %d limits", parts, glued, limits)
	}
}
