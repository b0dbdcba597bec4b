package profile_test

import (
	"fmt"
	"math"
	"slices"
	"strings"
	"testing"

	"conjoin/api"
	"conjoin/profile"
)

// least is a type with no more than it has to have.
func least() api.Type { return api.Type{Name: "a", Ware: "b", Least: 1, Most: 1, Rim: "a", Base: "a"} }

// full is a type of which every word is a profile.
func full(name string) api.Type {
	all := "abcdefghijklmnopqrstuvwxyz"
	t := api.Type{Name: name, Ware: "bell", Least: 1, Most: 12, Rim: all, Base: all}
	for i := range t.After {
		t.After[i] = all
	}
	return t
}

// spoilt are types that are not as said, each by one field alone, with what is wrong with them.
func spoilt() map[string]api.Type {
	l := map[string]api.Type{}
	add := func(what string, change func(*api.Type)) {
		x := least()
		change(&x)
		l[what] = x
	}
	for _, name := range []string{"", "A", "1a", "-a", "aB", "a_b", "a b", " a", "a ", "aé", "a\x00", "a`", "a{", "a/", "a:", "a,", "{", "`", "\xff", "a\n", strings.Repeat("a", 25)} {
		add(fmt.Sprintf("Name %q", name), func(x *api.Type) { x.Name = name })
		add(fmt.Sprintf("Ware %q", name), func(x *api.Type) { x.Ware = name })
	}
	for _, n := range [][2]int{{0, 0}, {0, 1}, {-1, 1}, {2, 1}, {1, 0}, {1, 13}, {13, 13}, {12, 11}, {math.MinInt, math.MaxInt}, {1, math.MaxInt}, {math.MaxInt, math.MinInt}} {
		add(fmt.Sprintf("rings %v", n), func(x *api.Type) { x.Least, x.Most = n[0], n[1] })
	}
	for _, set := range []string{"", "aa", "ba", "A", "a b", "a-", "é", "`a", "z{", "aB", "abca", " ", "\xff"} {
		add(fmt.Sprintf("Rim %q", set), func(x *api.Type) { x.Rim = set })
		add(fmt.Sprintf("Base %q", set), func(x *api.Type) { x.Base = set })
		for i := 0; i < 26 && set != ""; i += 5 {
			add(fmt.Sprintf("After[%d] %q", i, set), func(x *api.Type) { x.After[i] = set })
		}
	}
	return l
}

// whole are types as said, with a field at a time at an end of what is allowed.
func whole() []api.Type {
	l := []api.Type{
		least(), full("a"), {Name: strings.Repeat("z", 24), Ware: "a-9--z0-", Least: 12, Most: 12, Rim: "z", Base: "az"},
		{Name: "z9", Ware: strings.Repeat("a-0", 8), Least: 1, Most: 12, Rim: "abcdefghijklmnopqrstuvwxyz", Base: "b"},
	}
	l[2].After[0], l[2].After[25] = "z", "a"
	return l
}

// TestCheckTypes is CheckTypes of D2.
func TestCheckTypes(t *testing.T) {
	wantErr(t, "no types", profile.CheckTypes(nil), api.OK)
	wantErr(t, "the examples", profile.CheckTypes(parse(t, vessels)), api.OK)
	for _, x := range whole() {
		wantErr(t, x.Name, profile.CheckTypes([]api.Type{x}), api.OK)
	}
	other := least()
	other.Name = "other"
	for what, x := range spoilt() {
		wantErr(t, what, profile.CheckTypes([]api.Type{x}), api.ErrArg)
		wantErr(t, what+", the second one", profile.CheckTypes([]api.Type{other, x}), api.ErrArg)
	}
	bad := api.Type{Name: "a"}
	for what, c := range map[string]struct {
		l []api.Type
		e api.Errno
	}{
		"twice":                         {[]api.Type{least(), other, least()}, api.ErrTwice},
		"twice, another ware":           {[]api.Type{other, {Name: "other", Ware: "c", Least: 2, Most: 3, Rim: "b", Base: "b"}}, api.ErrTwice},
		"one ware":                      {[]api.Type{least(), other}, api.OK},
		"wrong, and twice":              {[]api.Type{least(), bad}, api.ErrArg},
		"twice, then wrong":             {[]api.Type{least(), least(), bad}, api.ErrTwice},
		"wrong, then twice":             {[]api.Type{bad, other, other}, api.ErrArg},
		"a name that only a wrong has":  {[]api.Type{bad, least()}, api.ErrArg},
		"the name of one is a ware too": {[]api.Type{least(), {Name: "b", Ware: "a", Least: 1, Most: 1, Rim: "a", Base: "a"}}, api.OK},
	} {
		wantErr(t, what, profile.CheckTypes(c.l), c.e)
	}
	var many []api.Type
	for i := range 13 {
		many = append(many, full("t"+string(rune('a'+i))))
	}
	wantErr(t, "12 types", profile.CheckTypes(many[:12]), api.OK)
	wantErr(t, "13 types", profile.CheckTypes(many), api.ErrLimit)
	wantErr(t, "13 types, none as said", profile.CheckTypes(make([]api.Type, 13)), api.ErrLimit)
	wantErr(t, "12 types, none as said", profile.CheckTypes(make([]api.Type, 12)), api.ErrArg)
}

// TestCheckRings is CheckRings of D2.
func TestCheckRings(t *testing.T) {
	var all []api.Ring
	for i := range 12 {
		all = append(all, ring(i, "az"))
	}
	for _, r := range [][]api.Ring{nil, all, {ring(0, "a")}, {ring(11, "z")}, {ring(0, "abcdefghijklmnopqrstuvwxyz"), ring(11, "b")}, {ring(3, "b"), ring(4, "a")}} {
		wantErr(t, fmt.Sprint(r), profile.CheckRings(r), api.OK)
	}
	for _, r := range [][]api.Ring{
		{ring(-1, "a")}, {ring(12, "a")}, {ring(math.MinInt, "a")}, {ring(math.MaxInt, "a")}, {ring(0, "")}, {ring(0, "ba")}, {ring(0, "aa")}, {ring(0, "A")}, {ring(0, "a ")}, {ring(0, "z{")},
		{ring(0, "`a")}, {ring(0, "é")}, {ring(0, "\xff")}, {ring(0, "a"), ring(0, "b")}, {ring(1, "a"), ring(0, "a")}, {ring(0, "a"), ring(5, "a"), ring(4, "a")}, {ring(0, "a"), ring(1, "ba")}, {{}},
	} {
		wantErr(t, fmt.Sprint(r), profile.CheckRings(r), api.ErrArg)
	}
	wantErr(t, "13 rings", profile.CheckRings(append(slices.Clone(all), ring(12, "a"))), api.ErrLimit)
	wantErr(t, "13 rings, none as said", profile.CheckRings(make([]api.Ring, 13)), api.ErrLimit)
	wantErr(t, "12 rings, none as said", profile.CheckRings(make([]api.Ring, 12)), api.ErrArg)
}

// calls are the errors of all functions with types, and an index or a ware and rings.
func calls(l []api.Type, of int, ware string, r []api.Ring, at int) map[string]api.Errno {
	m := map[string]api.Errno{}
	_, m["IsProfile"] = profile.IsProfile(l, of, "a")
	_, _, m["First"] = profile.First(l, of)
	_, m["Many"] = profile.Many(l, of)
	_, m["Letters"] = profile.Letters(l, of)
	_, m["Dead"] = profile.Dead(l, of)
	_, _, m["Overlap"] = profile.Overlap(l, of, 0)
	_, _, m["Overlap of the other one"] = profile.Overlap(l, 0, of)
	_, _, m["Complete"] = profile.Complete(l, ware, r)
	_, m["CheckFit"] = profile.CheckFit(l, ware, r, api.Fit{})
	_, _, m["Blanks"] = profile.Blanks(l, ware, r)
	_, m["CheckBlanks"] = profile.CheckBlanks(l, ware, r, nil)
	_, m["Shifts"] = profile.Shifts(l, ware, r)
	_, m["Choices"] = profile.Choices(l, ware, r, at)
	_, _, m["Ruled"] = profile.Ruled(l, ware, r)
	return m
}

// TestErrorsInOrder has more than one thing wrong with what is given: the error that the chapter names first counts.
func TestErrorsInOrder(t *testing.T) {
	good, bad, twice := parse(t, vessels), []api.Type{{}}, []api.Type{least(), least()}
	late, none := []api.Ring{ring(12, "a")}, []api.Ring{}
	for what, c := range map[string]struct {
		l            []api.Type
		of           int
		ware         string
		r            []api.Ring
		at           int
		byOf, byWare api.Errno
		byAt         api.Errno
	}{
		"all is right":         {good, 1, "bell", none, 11, api.OK, api.OK, api.OK},
		"13 types":             {make([]api.Type, 13), 13, "wine", late, 12, api.ErrLimit, api.ErrLimit, api.ErrLimit},
		"a wrong type":         {bad, 1, "wine", late, 12, api.ErrArg, api.ErrArg, api.ErrArg},
		"a type twice":         {twice, -1, "wine", late, 12, api.ErrTwice, api.ErrTwice, api.ErrTwice},
		"13 rings":             {good, 0, "wine", make([]api.Ring, 13), 12, api.OK, api.ErrLimit, api.ErrLimit},
		"a wrong ring":         {good, 0, "wine", late, 12, api.OK, api.ErrArg, api.ErrArg},
		"no such type":         {good, 2, "wine", none, 12, api.ErrType, api.ErrType, api.ErrType},
		"a type below 0":       {good, -1, "bel", none, -1, api.ErrType, api.ErrType, api.ErrType},
		"a name is no ware":    {good, math.MaxInt, "jar", none, 12, api.ErrType, api.ErrType, api.ErrType},
		"no ware":              {good, math.MinInt, "", none, 0, api.ErrType, api.ErrType, api.ErrType},
		"no types":             {nil, 0, "bell", none, 12, api.ErrType, api.ErrType, api.ErrType},
		"a place too far":      {good, 0, "bell", none, 12, api.OK, api.OK, api.ErrArg},
		"a place below 0":      {good, 0, "bell", none, -1, api.OK, api.OK, api.ErrArg},
		"a place beyond all":   {good, 0, "bell", none, math.MaxInt, api.OK, api.OK, api.ErrArg},
		"a place far below":    {good, 0, "bell", none, math.MinInt, api.OK, api.OK, api.ErrArg},
		"rings, and no a type": {nil, 0, "bell", late, 0, api.ErrType, api.ErrArg, api.ErrArg},
	} {
		for name, e := range calls(c.l, c.of, c.ware, c.r, c.at) {
			want := c.byWare
			switch name {
			case "IsProfile", "First", "Many", "Letters", "Dead", "Overlap", "Overlap of the other one":
				want = c.byOf
			case "Choices":
				want = c.byAt
			}
			wantErr(t, name+": "+what, e, want)
		}
	}
}
