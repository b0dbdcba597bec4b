package sherd_test

import (
	"fmt"
	"math"
	"slices"
	"testing"

	"conjoin/api"
	"conjoin/oracle"
	"conjoin/sherd"
)

// doubtKinds are the kinds of doubts, with those of the items that they are of.
var doubtKinds = map[uint8]uint8{api.DoubtWay: 2, api.DoubtTurn: 3, api.DoubtColour: 4, api.DoubtCurve: 5}

func TestDoubtsOfExamples(t *testing.T) {
	l := shelf(t)
	d, e := sherd.Doubts(l, 5, 1)
	if e != api.OK || len(d) != 1 || d[0].Kind != api.DoubtWay || !slices.Equal(d[0].Ids, []int{2, 3, 7}) {
		t.Errorf("Doubts: %v, error %d", d, e)
	}
	if d, e := sherd.Doubts(l, 4, 1); e != api.OK || len(d) != 0 {
		t.Errorf("Doubts: %v, error %d", d, e)
	}
	if d, e := sherd.Doubts(l, 5, 2); e != api.ErrSherd || len(d) != 0 {
		t.Errorf("Doubts: %v, error %d", d, e)
	}
	if ok, e := sherd.CheckDoubt(l, 5, 2, api.Doubt{Kind: 9}); e != api.ErrSherd || ok {
		t.Errorf("CheckDoubt: %v, error %d", ok, e)
	}
}

// TestDoubts is Doubts of B7, and P2.3.
func TestDoubts(t *testing.T) {
	seen := map[uint8]int{}
	eachSherd(t, 300, func(l []api.Item, day, id, n int) {
		got, e := sherd.Doubts(l, day, id)
		wantErr(t, "Doubts", e, api.OK)
		_, _, _, wayErr := sherd.Way(l, day, id, 0, 1)
		_, _, turnErr := sherd.Turn(l, day, id, 0, 1)
		_, colourErr := sherd.Colour(l, day, id)
		_, curveErr := sherd.Curves(l, day, id)
		for kind := api.DoubtWay; kind <= api.DoubtCurve; kind++ {
			items := own(l, day, id, doubtKinds[kind])
			want := clash(kind, n, items)
			if in := []api.Errno{wayErr, turnErr, colourErr, curveErr}[kind-1]; (in == api.ErrDoubt) != want {
				t.Errorf("kind %d of %v, day %d, sherd %d: error %d", kind, l, day, id, in)
			}
			if !want {
				continue
			}
			if seen[kind]++; len(got) == 0 {
				t.Fatalf("Doubts(%v, %d, %d): none of kind %d", l, day, id, kind)
			}
			d := got[0]
			got = got[1:]
			if ok, e := sherd.CheckDoubt(l, day, id, d); d.Kind != kind || !ok || e != api.OK || !isDoubt(l, day, id, n, d) {
				t.Errorf("Doubts(%v, %d, %d): %v, CheckDoubt %v, error %d", l, day, id, d, ok, e)
			}
		}
		if len(got) > 0 {
			t.Errorf("Doubts(%v, %d, %d): also %v", l, day, id, got)
		}
	})
	for kind := range doubtKinds {
		if seen[kind] < 50 {
			t.Errorf("kind %d only %d times", kind, seen[kind])
		}
	}
}

// isDoubt says whether a doubt is one, as the chapter's words say it.
func isDoubt(l []api.Item, day, id, n int, d api.Doubt) bool {
	items := own(l, day, id, doubtKinds[d.Kind])
	named := slices.DeleteFunc(slices.Clone(items), func(x api.Item) bool { return !slices.Contains(d.Ids, x.Id) })
	if doubtKinds[d.Kind] == 0 || !slices.Equal(ids(named), d.Ids) || d.Kind == api.DoubtColour && len(d.Ids) != 2 {
		return false
	}
	return clash(d.Kind, n, named)
}

// TestCheckDoubt is CheckDoubt of B7, with Ids by dice.
func TestCheckDoubt(t *testing.T) {
	d := dice(5)
	seen := map[bool]int{}
	eachSherd(t, 200, func(l []api.Item, day, id, n int) {
		for range 6 {
			x := api.Doubt{Kind: uint8(d.below(6))}
			among := own(l, day, id, doubtKinds[x.Kind])
			if d.below(4) == 0 {
				among = l
			}
			for _, y := range among {
				if d.below(4) > 0 && (x.Kind != api.DoubtColour || len(x.Ids) < 2) {
					x.Ids = append(x.Ids, y.Id)
				}
			}
			slices.Sort(x.Ids)
			if len(x.Ids) > 0 && d.below(6) == 0 {
				x.Ids = append(x.Ids, x.Ids[d.below(len(x.Ids))])
			}
			want := isDoubt(l, day, id, n, x)
			seen[want]++
			if ok, e := sherd.CheckDoubt(l, day, id, x); ok != want || e != api.OK {
				t.Errorf("CheckDoubt(%v, %d, %d, %v): %v, error %d, want %v", l, day, id, x, ok, e, want)
			}
		}
	})
	if seen[true] < 100 || seen[false] < 100 {
		t.Errorf("CheckDoubt: %v", seen)
	}
}

// TestNoDoubts is CheckDoubt of what is nearly a doubt.
func TestNoDoubts(t *testing.T) {
	l := read(t, "1 0 sherd a 1 1 3", "2 0 sherd a 1 1 3", "10 1 way 1 0 1 5 6", "11 1 way 1 0 1 8 9", "12 1 way 2 0 1 5 6", "13 1 way 2 0 1 8 9", "20 1 turn 1 0 1 5 6", "21 1 turn 1 0 1 8 9",
		"30 1 colour 1 5 6", "31 1 colour 1 8 9", "32 1 colour 1 5 9", "33 1 colour 1 11 12", "40 1 curve 1 ab", "41 1 curve 1 bc", "42 1 curve 1 ac", "43 1 curve 1 abc",
		"50 2 way 1 0 3 1 2", "51 2 turn 1 1 2 180 180", "52 3 void 11", "53 3 void 31", "54 3 void 21", "55 3 void 42")
	for _, c := range []struct {
		day int
		d   api.Doubt
		ok  bool
	}{
		{1, api.Doubt{Kind: 1, Ids: []int{10, 11}}, true}, {0, api.Doubt{Kind: 1, Ids: []int{10, 11}}, false}, {3, api.Doubt{Kind: 1, Ids: []int{10, 11}}, false},
		{1, api.Doubt{Kind: 1, Ids: []int{11, 10}}, false}, {1, api.Doubt{Kind: 1, Ids: []int{10, 10, 11}}, false}, {1, api.Doubt{Kind: 1, Ids: []int{10}}, false}, {1, api.Doubt{Kind: 1}, false},
		{1, api.Doubt{Kind: 1, Ids: []int{12, 13}}, false}, {1, api.Doubt{Kind: 1, Ids: []int{10, 11, 12}}, false}, {1, api.Doubt{Kind: 1, Ids: []int{10, 11, 20}}, false}, {1, api.Doubt{Kind: 1, Ids: []int{20, 21}}, false},
		{2, api.Doubt{Kind: 1, Ids: []int{50}}, true}, {1, api.Doubt{Kind: 1, Ids: []int{50}}, false}, {2, api.Doubt{Kind: 1, Ids: []int{10, 11, 50}}, true},
		{2, api.Doubt{Kind: 2, Ids: []int{51}}, true}, {2, api.Doubt{Kind: 2, Ids: []int{20, 21}}, true}, {2, api.Doubt{Kind: 2, Ids: []int{20}}, false}, {3, api.Doubt{Kind: 2, Ids: []int{20, 21}}, false}, {2, api.Doubt{Kind: 2}, false},
		{1, api.Doubt{Kind: 3, Ids: []int{30, 31}}, true}, {1, api.Doubt{Kind: 3, Ids: []int{31, 30}}, false}, {1, api.Doubt{Kind: 3, Ids: []int{30, 31, 33}}, false}, {1, api.Doubt{Kind: 3, Ids: []int{30, 32}}, false},
		{1, api.Doubt{Kind: 3, Ids: []int{30, 30}}, false}, {1, api.Doubt{Kind: 3}, false}, {3, api.Doubt{Kind: 3, Ids: []int{30, 31}}, false}, {3, api.Doubt{Kind: 3, Ids: []int{30, 33}}, true},
		{1, api.Doubt{Kind: 4, Ids: []int{40, 41, 42}}, true}, {1, api.Doubt{Kind: 4, Ids: []int{40, 41, 42, 43}}, true}, {1, api.Doubt{Kind: 4, Ids: []int{40, 41}}, false}, {1, api.Doubt{Kind: 4}, false}, {3, api.Doubt{Kind: 4, Ids: []int{40, 41, 42}}, false},
		{1, api.Doubt{Kind: 0, Ids: []int{10, 11}}, false}, {1, api.Doubt{Kind: 5, Ids: []int{40, 41, 42}}, false}, {1, api.Doubt{Kind: 255}, false}, {1, api.Doubt{Kind: 1, Ids: []int{math.MinInt, math.MaxInt}}, false},
	} {
		if ok, e := sherd.CheckDoubt(l, c.day, 1, c.d); ok != c.ok || e != api.OK {
			t.Errorf("CheckDoubt on day %d of %v: %v, error %d", c.day, c.d, ok, e)
		}
	}
}

func wantRests(t *testing.T, l []api.Item, day, id, from, to int, upper bool, want []int, wantErr api.Errno) {
	t.Helper()
	if got, e := sherd.Rests(l, day, id, from, to, upper); !slices.Equal(got, want) || e != wantErr {
		t.Errorf("Rests(%v, %d, %d, %d, %d, %v): %v, error %d, want %v, error %d", l, day, id, from, to, upper, got, e, want, wantErr)
	}
}

func TestRestsOfExamples(t *testing.T) {
	l := shelf(t)
	wantRests(t, l, 4, 1, 0, 1, true, []int{2, 3}, api.OK)
	wantRests(t, l, 4, 1, 0, 1, false, []int{2, 3}, api.OK)
	wantRests(t, l, 4, 1, 0, 3, true, nil, api.OK)
	wantRests(t, l, 4, 1, 0, 3, false, []int{2}, api.OK)
	wantRests(t, l, 4, 1, 2, 3, false, nil, api.OK)
	wantRests(t, l, 5, 1, 0, 1, true, nil, api.ErrDoubt)
	wantRests(t, l, 5, 1, 1, 1, true, nil, api.ErrArg)
	wantRests(t, l, 5, 1, 0, 5, false, nil, api.ErrArg)
	wantRests(t, l, 5, 2, 1, 1, true, nil, api.ErrSherd)
	got, e := sherd.ColourRests(l, 3, 1)
	wantList(t, "ColourRests", got, e, 4, 5)
	_, e = sherd.ColourRests(l, 3, 2)
	wantErr(t, "ColourRests", e, api.ErrSherd)
	// The list goes by the places of ways in the catalogue, and not by their Ids: of two that say the same the first one stays.
	m := read(t, "1 0 sherd a 1 1 3", "9 0 way 1 0 1 5 7", "8 1 way 1 0 1 5 8", "7 2 way 1 0 1 4 7")
	wantRests(t, m, 2, 1, 0, 1, true, []int{9}, api.OK)
	wantRests(t, m, 2, 1, 0, 1, false, []int{9}, api.OK)
	m = read(t, "1 0 sherd a 1 1 3", "9 0 way 1 0 1 5 9", "8 1 way 1 0 1 5 8", "7 2 way 1 0 1 4 8", "6 3 void 8")
	wantRests(t, m, 1, 1, 0, 1, true, []int{8}, api.OK)
	wantRests(t, m, 3, 1, 0, 1, true, []int{7}, api.OK)
	wantRests(t, m, 3, 1, 0, 1, false, []int{9}, api.OK)
	c := read(t, "1 0 sherd a 1 1 3", "9 0 colour 1 5 7", "8 1 colour 1 6 7", "7 2 colour 1 8 8")
	for day, want := range [][]int{{9}, {8, 9}} {
		got, e := sherd.ColourRests(c, day, 1)
		wantList(t, "ColourRests", got, e, want...)
	}
	got, e = sherd.ColourRests(c, -1, 1)
	if e != api.ErrSherd || len(got) != 0 {
		t.Errorf("ColourRests: %v, error %d", got, e)
	}
	got, e = sherd.ColourRests(c, 2, 1)
	if e != api.ErrDoubt || len(got) != 0 {
		t.Errorf("ColourRests: %v, error %d", got, e)
	}
}

// left goes through ways as B8 says it.
func left(n int, ways []api.Item, from, to int) []int {
	m, _ := oracle.Differences(n+1, wayBounds(n, ways))
	for i := len(ways) - 1; i >= 0; i-- {
		less := without(ways, i)
		if k, _ := oracle.Differences(n+1, wayBounds(n, less)); k[from][to] == m[from][to] {
			ways = less
		}
	}
	return ids(ways)
}

// TestRests is B8, and P2.5 of ends: without the ways that an end does not rest on it is the same, and without any one more it is not.
func TestRests(t *testing.T) {
	eachSherd(t, 150, func(l []api.Item, day, id, n int) {
		ways := own(l, day, id, 2)
		if m, ok := oracle.Differences(n+1, wayBounds(n, ways)); !ok {
			wantRests(t, l, day, id, 0, n, true, nil, api.ErrDoubt)
		} else {
			for from := range n {
				for to := from + 1; to <= n; to++ {
					wantRests(t, l, day, id, from, to, true, left(n, ways, from, to), api.OK)
					wantRests(t, l, day, id, from, to, false, left(n, ways, to, from), api.OK)
					got, _ := sherd.Rests(l, day, id, from, to, true)
					some := slices.DeleteFunc(slices.Clone(ways), func(x api.Item) bool { return !slices.Contains(got, x.Id) })
					if k, _ := oracle.Differences(n+1, wayBounds(n, some)); k[from][to] != m[from][to] {
						t.Errorf("Rests(%v, %d, %d, %d, %d): %v alone", l, day, id, from, to, got)
					}
					for i := range some {
						if k, _ := oracle.Differences(n+1, wayBounds(n, without(some, i))); k[from][to] == m[from][to] {
							t.Errorf("Rests(%v, %d, %d, %d, %d): %v without index %d", l, day, id, from, to, got, i)
						}
					}
				}
			}
		}
		want, wantE := spanOf(own(l, day, id, 4))
		by := slices.DeleteFunc([]int{want.LowBy, want.HighBy}, func(n int) bool { return n == 0 })
		slices.Sort(by)
		if got, e := sherd.ColourRests(l, day, id); !slices.Equal(got, slices.Compact(by)) || e != wantE {
			t.Errorf("ColourRests(%v, %d, %d): %v, error %d, want %v, error %d", l, day, id, got, e, by, wantE)
		}
	})
}

// withVoids are a catalogue with withdrawals of some items behind it.
func withVoids(t *testing.T, l []api.Item, gone []int) []api.Item {
	t.Helper()
	for i, id := range gone {
		var e api.Errno
		l, e = sherd.Append(l, api.Item{Id: 1000 + i, Known: lastDay(l), Kind: 7, Of: id})
		wantErr(t, "a withdrawal", e, api.OK)
	}
	return l
}

// others are the Ids of items that are not in a list.
func others(l []api.Item, list []int) []int {
	return slices.DeleteFunc(ids(l), func(id int) bool { return slices.Contains(list, id) })
}

// TestLineage is P2.5 with withdrawals of what an end, or a colour, does not rest on.
func TestLineage(t *testing.T) {
	eachCatalogue(t, 150, func(l []api.Item) {
		day := lastDay(l)
		for id, n := range corners(l, day) {
			ways, colours := own(l, day, id, 2), own(l, day, id, 4)
			for _, upper := range []bool{true, false} {
				r, e := sherd.Rests(l, day, id, 0, n, upper)
				if e != api.OK {
					continue
				}
				low, high, ok, _ := sherd.Way(l, day, id, 0, n)
				low2, high2, ok2, e := sherd.Way(withVoids(t, l, others(ways, r)), day, id, 0, n)
				if e != api.OK || upper && ok != ok2 || ok && ok2 && (upper && high != high2 || !upper && low != low2) {
					t.Errorf("Rests(%v, %d, %d, 0, %d, %v): %v", l, day, id, n, upper, r)
				}
			}
			if r, e := sherd.ColourRests(l, day, id); e == api.OK {
				s, _ := sherd.Colour(l, day, id)
				if s2, e := sherd.Colour(withVoids(t, l, others(colours, r)), day, id); s2 != s || e != api.OK {
					t.Errorf("ColourRests(%v, %d, %d): %v", l, day, id, r)
				}
			}
		}
	})
}

// about says all that is to be told apart of a sherd on a day; an empty string if there is none.
func about(l []api.Item, day, id int) string {
	n, ok := corners(l, day)[id]
	if !ok {
		return ""
	}
	span, e := spanOf(own(l, day, id, 4))
	return fmt.Sprint(wayBounds(n, own(l, day, id, 2)), turnBounds(n, own(l, day, id, 3)), span, e, classes(own(l, day, id, 5)))
}

// differ are the sherds of which one says on a day something else than another one on another day.
func differ(l []api.Item, day int, m []api.Item, other int) []int {
	either := ids(append(slices.Clone(l), m...))
	return slices.DeleteFunc(slices.Compact(either), func(id int) bool { return about(l, day, id) == about(m, other, id) })
}

// TestChanged is Changed of B9, and P2.6.
func TestChanged(t *testing.T) {
	l := shelf(t)
	got, e := sherd.Changed(l, 2, 3)
	wantList(t, "Changed", got, e, 1)
	changes := 0
	eachCatalogue(t, 60, func(l []api.Item) {
		ds := days(l)
		if len(ds) > 8 {
			ds = ds[len(ds)-8:]
		}
		for _, a := range ds {
			for _, b := range ds {
				got, e := sherd.Changed(l, a, b)
				changes += len(got)
				wantList(t, fmt.Sprint("Changed ", l, a, b), got, e, differ(l, a, l, b)...)
				if !slices.ContainsFunc(l, func(x api.Item) bool { return min(a, b) < x.Known && x.Known <= max(a, b) }) && len(got) > 0 {
					t.Errorf("Changed(%v, %d, %d): %v, but nothing became known", l, a, b, got)
				}
			}
		}
	})
	if changes < 1000 {
		t.Errorf("only %d changes", changes)
	}
}

// TestChangedDoubt has a sherd that stays in doubt, of which Colour and Curves return the same, an error.
func TestChangedDoubt(t *testing.T) {
	l := read(t, "1 0 sherd a 1 1 3", "2 1 colour 1 0 1", "3 2 colour 1 5 6", "4 3 colour 1 8 9", "5 4 void 4", "6 5 void 3", "7 5 colour 1 1 2", "8 6 curve 1 ab", "9 7 curve 1 c", "10 8 curve 1 d", "11 9 void 7", "12 10 colour 1 0 1", "13 11 way 1 0 1 5 6", "14 12 void 13")
	for day, want := range [][]int{{1}, {1}, {1}, nil, nil, {1}, {1}, {1}, nil, {1}, nil, {1}, {1}, nil} {
		got, e := sherd.Changed(l, day-1, day)
		wantList(t, fmt.Sprint("Changed to day ", day), got, e, want...)
		got, e = sherd.Changed(l, day, day-1)
		wantList(t, fmt.Sprint("Changed from day ", day), got, e, want...)
	}
	// Another item with the same numbers is another colour if the first one with them is withdrawn.
	m := read(t, "1 0 sherd a 1 1 3", "2 1 colour 1 5 9", "3 2 colour 1 5 9", "4 3 void 2")
	for day, want := range [][]int{{1}, {1}, nil, {1}} {
		got, e := sherd.Changed(m, day-1, day)
		wantList(t, fmt.Sprint("Changed to day ", day), got, e, want...)
	}
}

// TestReached is Reached of B9, and P2.5 of sherds.
func TestReached(t *testing.T) {
	l := shelf(t)
	for line, want := range map[string][]int{"9 7 curve 1 cd": {1}, "9 7 limit bell 3": nil, "9 7 curve 1 abcde": nil, "9 7 sherd a 1 1 3": {9}, "9 7 void 8": nil, "9 7 void 5": {1}, "9 7 way 1 2 3 1 10000": {1}} {
		got, e := sherd.Reached(l, read(t, line)[0])
		wantList(t, "Reached "+line, got, e, want...)
	}
	for line, want := range map[string]api.Errno{"8 6 void 1": api.ErrTwice, "9 5 void 1": api.ErrTime, "9 6 void 1": api.ErrState} {
		got, e := sherd.Reached(l, read(t, line)[0])
		if wantErr(t, "Reached "+line, e, want); len(got) > 0 {
			t.Errorf("Reached %s: %v", line, got)
		}
	}
	if _, e := sherd.Reached(append(l, l[0]), api.Item{}); e != api.ErrTwice {
		t.Errorf("Reached: error %d", e)
	}
	d := dice(23)
	reached := 0
	eachCatalogue(t, 150, func(l []api.Item) {
		for range 8 {
			x := d.aim(l, d.anyItem(lastDay(l)+d.below(2)))
			x.Id = 950
			if refused(l, x) != api.OK {
				continue
			}
			got, e := sherd.Reached(l, x)
			reached += len(got)
			longer := append(slices.Clone(l), x)
			wantList(t, fmt.Sprint("Reached ", l, x), got, e, differ(l, x.Known, longer, x.Known)...)
		}
	})
	if reached < 200 {
		t.Errorf("only %d sherds reached", reached)
	}
}

// allows says that what one catalogue allows of a sherd is in what another one allows, if both allow anything.
func allows(t *testing.T, narrow, wide []api.Item, day, id, n int) {
	t.Helper()
	for from := range n {
		for to := from + 1; to <= n; to++ {
			low, high, ok, e := sherd.Way(narrow, day, id, from, to)
			low2, high2, ok2, e2 := sherd.Way(wide, day, id, from, to)
			if e == api.OK && (e2 != api.OK || ok2 && (!ok || low < low2 || high > high2)) {
				t.Errorf("Way of %v and of %v, sherd %d, %d to %d", narrow, wide, id, from, to)
			}
			if to == n {
				continue
			}
			low, high, e = sherd.Turn(narrow, day, id, from, to)
			low2, high2, e2 = sherd.Turn(wide, day, id, from, to)
			if e == api.OK && (e2 != api.OK || low < low2 || high > high2) {
				t.Errorf("Turn of %v and of %v, sherd %d, %d to %d", narrow, wide, id, from, to)
			}
		}
	}
	s, e := sherd.Colour(narrow, day, id)
	s2, e2 := sherd.Colour(wide, day, id)
	if e == api.OK && (e2 != api.OK || s.Low < s2.Low || s.High > s2.High) {
		t.Errorf("Colour of %v and of %v, sherd %d", narrow, wide, id)
	}
	c, _ := sherd.Curves(narrow, day, id)
	c2, _ := sherd.Curves(wide, day, id)
	for i := range len(c) {
		if !slices.Contains([]byte(c2), c[i]) {
			t.Errorf("Curves of %v and of %v, sherd %d", narrow, wide, id)
		}
	}
}

// TestNarrowing is P2.4: an item more narrows what is allowed, and a withdrawal widens it.
func TestNarrowing(t *testing.T) {
	d := dice(29)
	eachCatalogue(t, 150, func(l []api.Item) {
		for range 8 {
			x := d.aim(l, d.anyItem(lastDay(l)))
			x.Id = 950
			if refused(l, x) != api.OK {
				continue
			}
			longer := append(slices.Clone(l), x)
			for id, n := range corners(l, x.Known) {
				switch {
				case x.Kind != api.ItemVoid:
					allows(t, longer, l, x.Known, id, n)
				case x.Of != id:
					allows(t, l, longer, x.Known, id, n)
				}
			}
		}
	})
}

// TestKnowledge is P2.6: nothing on a day depends on items that are known later.
func TestKnowledge(t *testing.T) {
	eachCatalogue(t, 80, func(l []api.Item) {
		for _, day := range days(l) {
			early := slices.DeleteFunc(slices.Clone(l), func(x api.Item) bool { return x.Known > day })
			for id, n := range corners(l, day) {
				allows(t, l, early, day, id, n)
				allows(t, early, l, day, id, n)
			}
			got, e := sherd.Counting(early, day)
			wantList(t, "Counting", got, e, count(l, day)...)
		}
	})
}
