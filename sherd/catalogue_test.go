package sherd_test

import (
	"cmp"
	"math"
	"slices"
	"strings"
	"testing"

	"conjoin/api"
	"conjoin/sherd"
)

// whole are well-formed items, one of each kind, with a field at a time at an end of what is allowed.
func whole() []api.Item {
	l := []api.Item{
		{Id: 1, Kind: 1, Ware: "a", Pit: 1, Layer: 1, Corners: 3}, {Id: 1000000, Known: 100000, Kind: 1, Ware: "z", Pit: 20, Layer: 50, Corners: 16, Foot: true},
		{Id: 2, Kind: 1, Ware: "a-9--z0", Pit: 2, Layer: 2, Corners: 4}, {Id: 2, Kind: 1, Ware: strings.Repeat("a", 24), Pit: 2, Layer: 2, Corners: 4},
		{Id: 1, Kind: 2, Sherd: 1, From: 0, To: 1, Low: 1, High: 1}, {Id: 1, Kind: 2, Sherd: 1000000, From: 15, To: 16, Low: 10000, High: 10000}, {Id: 1, Kind: 2, Sherd: 1, From: 0, To: 16, Low: 1, High: 10000},
		{Id: 1, Kind: 3, Sherd: 1, From: 0, To: 1, Low: -2880, High: -2880}, {Id: 1, Kind: 3, Sherd: 1000000, From: 14, To: 15, Low: 2880, High: 2880}, {Id: 1, Kind: 3, Sherd: 1, From: 0, To: 15, Low: -2880, High: 2880},
		{Id: 1, Kind: 4, Sherd: 1}, {Id: 1, Kind: 4, Sherd: 1000000, Low: 1000, High: 1000}, {Id: 1, Kind: 4, Sherd: 1, Low: 0, High: 1000},
		{Id: 1, Kind: 5, Sherd: 1, Set: "a"}, {Id: 1, Kind: 5, Sherd: 1000000, Set: "abcdefghijklmnopqrstuvwxyz"}, {Id: 1, Kind: 5, Sherd: 1, Set: "az"}, {Id: 1, Kind: 5, Sherd: 1, Set: "z"},
		{Id: 1, Kind: 6, Ware: "a", Limit: 1}, {Id: 1, Kind: 6, Ware: "cord-5", Limit: 40},
		{Id: 1, Kind: 7, Of: 1}, {Id: 1, Kind: 7, Of: 1000000},
	}
	return l
}

// spoilt are items that are not well-formed, each by one field alone.
func spoilt() []api.Item {
	var l []api.Item
	add := func(x api.Item, change func(*api.Item)) {
		change(&x)
		l = append(l, x)
	}
	one := map[uint8]api.Item{}
	for _, x := range whole() {
		one[x.Kind] = x
	}
	for _, x := range one {
		for _, n := range []int{0, -1, 1000001, math.MinInt, math.MaxInt} {
			add(x, func(x *api.Item) { x.Id = n })
			if x.Sherd != 0 {
				add(x, func(x *api.Item) { x.Sherd = n })
			}
			if x.Of != 0 {
				add(x, func(x *api.Item) { x.Of = n })
			}
		}
		for _, n := range []int{-1, 100001, math.MinInt, math.MaxInt} {
			add(x, func(x *api.Item) { x.Known = n })
		}
		for _, kind := range []uint8{0, 8, 255} {
			add(x, func(x *api.Item) { x.Kind = kind })
		}
	}
	for _, name := range []string{"", "A", "1a", "-a", "aB", "a_b", "a b", "aé", strings.Repeat("a", 25), "a\x00", "a`", "a{", "a/", "a:", "a,", "{", "`"} {
		add(one[1], func(x *api.Item) { x.Ware = name })
		add(one[6], func(x *api.Item) { x.Ware = name })
	}
	for _, n := range []int{0, -1, math.MinInt, math.MaxInt} {
		add(one[1], func(x *api.Item) { x.Pit = n })
		add(one[1], func(x *api.Item) { x.Layer = n })
		add(one[1], func(x *api.Item) { x.Corners = n })
		add(one[6], func(x *api.Item) { x.Limit = n })
	}
	add(one[1], func(x *api.Item) { x.Pit = 21 })
	add(one[1], func(x *api.Item) { x.Layer = 51 })
	add(one[1], func(x *api.Item) { x.Corners = 2 })
	add(one[1], func(x *api.Item) { x.Corners = 17 })
	add(one[6], func(x *api.Item) { x.Limit = 41 })
	for _, ends := range [][2]int{{-1, 1}, {1, 1}, {2, 1}, {0, 17}, {math.MinInt, math.MaxInt}} {
		add(one[2], func(x *api.Item) { x.From, x.To = ends[0], ends[1] })
		add(one[3], func(x *api.Item) { x.From, x.To = ends[0], ends[1] })
	}
	add(one[3], func(x *api.Item) { x.From, x.To = 0, 16 })
	for kind, spans := range map[uint8][][2]int{
		2: {{0, 5}, {6, 5}, {5, 10001}, {math.MinInt, math.MaxInt}},
		3: {{-2881, 5}, {6, 5}, {5, 2881}, {math.MinInt, math.MaxInt}},
		4: {{-1, 5}, {6, 5}, {5, 1001}, {math.MinInt, math.MaxInt}},
	} {
		for _, s := range spans {
			add(one[kind], func(x *api.Item) { x.Low, x.High = s[0], s[1] })
		}
	}
	for _, set := range []string{"", "aa", "ba", "A", "a b", "a-", "é", "`a", "z{", "aB"} {
		add(one[5], func(x *api.Item) { x.Set = set })
	}
	return append(l, laden(one)...)
}

// laden are items with a field that their kind does not have.
func laden(one map[uint8]api.Item) []api.Item {
	var l []api.Item
	has := map[uint8]string{1: "ware pit layer corners foot", 2: "sherd from to low high", 3: "sherd from to low high", 4: "sherd low high", 5: "sherd set", 6: "ware limit", 7: "of"}
	for kind, x := range one {
		for name, set := range map[string]func(*api.Item){
			"ware": func(x *api.Item) { x.Ware = "a" }, "pit": func(x *api.Item) { x.Pit = 1 }, "layer": func(x *api.Item) { x.Layer = 1 },
			"corners": func(x *api.Item) { x.Corners = 3 }, "foot": func(x *api.Item) { x.Foot = true }, "sherd": func(x *api.Item) { x.Sherd = 1 },
			"from": func(x *api.Item) { x.From = -1 }, "to": func(x *api.Item) { x.To = 1 }, "low": func(x *api.Item) { x.Low = -1 },
			"high": func(x *api.Item) { x.High = 1 }, "set": func(x *api.Item) { x.Set = "a" }, "limit": func(x *api.Item) { x.Limit = 1 }, "of": func(x *api.Item) { x.Of = 1 },
		} {
			if !slices.Contains(strings.Fields(has[kind]), name) {
				y := x
				set(&y)
				l = append(l, y)
			}
		}
	}
	return l
}

func TestCheckItem(t *testing.T) {
	for _, x := range whole() {
		if e := sherd.CheckItem(x); e != api.OK {
			t.Errorf("CheckItem(%v): error %d", x, e)
		}
	}
	for _, x := range append(spoilt(), api.Item{}, api.Item{Id: 1}, api.Item{Id: 1, Kind: 8}, api.Item{Id: 1, Kind: 255}) {
		if e := sherd.CheckItem(x); e != api.ErrArg {
			t.Errorf("CheckItem(%v): error %d", x, e)
		}
		if i, e := sherd.Check([]api.Item{x}); i != 0 || e != api.ErrArg {
			t.Errorf("Check(%v): %d, error %d", x, i, e)
		}
	}
}

func TestExamples(t *testing.T) {
	l := shelf(t)
	s, e := sherd.Sherds(l, 0)
	wantList(t, "Sherds", s, e, api.Sherd{Id: 1, Ware: "bell", Pit: 1, Layer: 4, Corners: 4, Foot: true})
	w, e := sherd.Wares(l, 0)
	wantList(t, "Wares", w, e, "bell")
	for day, want := range map[int][2]int{6: {2, 8}, 5: {0, 0}} {
		if limit, by, e := sherd.LimitOf(l, day, "bell"); limit != want[0] || by != want[1] || e != api.OK {
			t.Errorf("LimitOf on day %d: %d, %d, error %d", day, limit, by, e)
		}
	}
	for line, want := range map[string]api.Errno{
		"9 6 way 1 0 5 1 2": api.ErrArg, "9 6 void 1": api.ErrState, "9 6 void 7": api.OK, "9 5 colour 1 1 2": api.ErrTime, "9 6 way 2 0 1 1 2": api.ErrNone,
		"9 6 way 1 0 4 1 2": api.OK, "9 6 turn 1 0 3 1 2": api.OK, "9 6 turn 1 0 4 1 2": api.ErrArg, "8 6 limit bell 1": api.ErrTwice, "8 5 void 8": api.ErrTwice,
		"9 5 void 77": api.ErrTime, "9 6 void 77": api.ErrNone, "9 6 void 9": api.ErrNone, "9 6 curve 2 a": api.ErrNone, "9 6 turn 8 0 1 1 2": api.ErrNone, "9 6 colour 9 1 2": api.ErrNone,
	} {
		x := read(t, line)[0]
		m, e := sherd.Append(l, x)
		wantErr(t, "Append of "+line, e, want)
		if e == api.OK && !slices.Equal(m, append(slices.Clone(l), x)) || e != api.OK && len(m) > 0 {
			t.Errorf("Append of %s: %v", line, m)
		}
	}
}

// TestErrorsInOrder has items with more than one thing wrong: the error that the chapter names first counts.
func TestErrorsInOrder(t *testing.T) {
	l := read(t, "1 3 sherd bell 1 4 4", "2 3 way 1 0 1 5 6", "3 3 void 2")
	for name, c := range map[string]struct {
		x    api.Item
		want api.Errno
	}{
		"not well-formed, and twice":      {api.Item{Id: 2, Known: 3, Kind: 7}, api.ErrArg},
		"twice, and too early":            {api.Item{Id: 2, Known: 2, Kind: 7, Of: 2}, api.ErrTwice},
		"too early, and of none":          {api.Item{Id: 4, Known: 2, Kind: 7, Of: 2}, api.ErrTime},
		"of none, and too great":          {api.Item{Id: 4, Known: 3, Kind: 2, Sherd: 2, To: 16, Low: 1, High: 1}, api.ErrNone},
		"a second withdrawal":             {api.Item{Id: 4, Known: 3, Kind: 7, Of: 2}, api.ErrNone},
		"a withdrawal of a withdrawal":    {api.Item{Id: 4, Known: 3, Kind: 7, Of: 3}, api.ErrNone},
		"a sherd whose way is withdrawn":  {api.Item{Id: 4, Known: 3, Kind: 7, Of: 1}, api.OK},
		"an item of itself":               {api.Item{Id: 4, Known: 3, Kind: 5, Sherd: 4, Set: "a"}, api.ErrNone},
		"a measurement of a measurement":  {api.Item{Id: 4, Known: 3, Kind: 5, Sherd: 2, Set: "a"}, api.ErrNone},
		"a measurement of no sherd there": {api.Item{Id: 4, Known: 3, Kind: 5, Sherd: 9, Set: "a"}, api.ErrNone},
	} {
		_, e := sherd.Append(l, c.x)
		wantErr(t, name, e, c.want)
	}
	gone := append(slices.Clone(l), read(t, "4 3 void 1")...)
	for _, line := range []string{"5 3 void 1", "5 3 way 1 0 1 1 2", "5 3 colour 1 1 2", "5 3 turn 1 0 1 1 2", "5 3 curve 1 a"} {
		_, e := sherd.Append(gone, read(t, line)[0])
		wantErr(t, line, e, api.ErrNone)
	}
	bad := append(slices.Clone(l), api.Item{}, l[0])
	if i, e := sherd.Check(bad); i != 3 || e != api.ErrArg {
		t.Errorf("Check: %d, error %d", i, e)
	}
	if _, e := sherd.Append(bad, api.Item{}); e != api.ErrArg {
		t.Errorf("Append: error %d", e)
	}
	twice := []api.Item{l[0], l[0]}
	if _, e := sherd.Append(twice, api.Item{}); e != api.ErrTwice {
		t.Errorf("Append: error %d", e)
	}
}

// sherds are so many sherds with ascending Ids, from 1 on.
func sherds(n int) []api.Item {
	var l []api.Item
	for i := range n {
		l = append(l, api.Item{Id: i + 1, Kind: 1, Ware: "a", Pit: 1, Layer: 1, Corners: 3})
	}
	return l
}

func TestLimits(t *testing.T) {
	l := sherds(301)
	if i, e := sherd.Check(l[:300]); i != 0 || e != api.OK {
		t.Errorf("300 items: %d, error %d", i, e)
	}
	l[300] = api.Item{}
	if i, e := sherd.Check(l); i != 300 || e != api.ErrLimit {
		t.Errorf("301 items: %d, error %d", i, e)
	}
	if m, e := sherd.Append(l[:299], l[299]); len(m) != 300 || e != api.OK {
		t.Errorf("the last item: %d, error %d", len(m), e)
	}
	if m, e := sherd.Append(l[:300], api.Item{}); len(m) != 0 || e != api.ErrLimit {
		t.Errorf("an item too many: %d, error %d", len(m), e)
	}
	own := sherds(2)
	for i := range 150 {
		own = append(own, api.Item{Id: 10 + i, Kind: 2 + uint8(i%4), Sherd: 1})
		x := &own[len(own)-1]
		switch x.Kind {
		case 2:
			x.To, x.Low, x.High = 3, 3, 9
		case 3:
			x.To = 1
		case 5:
			x.Set = "a"
		}
	}
	if i, e := sherd.Check(own); i != 0 || e != api.OK {
		t.Fatalf("150 items of a sherd: %d, error %d", i, e)
	}
	for _, x := range []api.Item{
		{Id: 9, Kind: 2, Sherd: 1, To: 1, Low: 1, High: 1}, {Id: 9, Kind: 3, Sherd: 1, To: 1}, {Id: 9, Kind: 4, Sherd: 1}, {Id: 9, Kind: 5, Sherd: 1, Set: "a"},
	} {
		_, e := sherd.Append(own, x)
		wantErr(t, "a 151st item of a sherd", e, api.ErrLimit)
		m, e := sherd.Append(own, api.Item{Id: 8, Kind: 7, Of: 11})
		wantErr(t, "a withdrawal", e, api.OK)
		_, e = sherd.Append(m, x)
		wantErr(t, "a 150th item again", e, api.OK)
		x.Sherd = 2
		_, e = sherd.Append(own, x)
		wantErr(t, "an item of another sherd", e, api.OK)
	}
	_, e := sherd.Append(own, api.Item{Id: 9, Kind: 2, Sherd: 1, To: 4, Low: 1, High: 1})
	wantErr(t, "a 151st item, too great", e, api.ErrArg)
}

// TestCheck is B1 with items by dice, accepted or not.
func TestCheck(t *testing.T) {
	d := dice(3)
	seen := map[api.Errno]int{}
	for range 3000 {
		var l []api.Item
		day, want, at := 2, api.OK, 0
		for i := range 1 + d.below(25) {
			day = max(0, day+d.one(0, 0, 1, 2, 2, 2, 2, -1))
			x := d.aim(l, d.anyItem(day))
			if x.Kind != 1 && d.below(40) == 0 {
				x.To++
			}
			e := sherd.CheckItem(x)
			if e == api.OK {
				e = refused(l, x)
			}
			if e != api.OK && want == api.OK && d.below(2) == 0 {
				want, at = e, i
			} else if e != api.OK {
				x = api.Item{Id: 1000 + i, Known: lastDay(l), Kind: 1, Ware: "a", Pit: 1, Layer: 1, Corners: 3 + d.below(3)}
			}
			l = append(l, x)
			if want != api.OK {
				break
			}
		}
		seen[want]++
		if i, e := sherd.Check(l); i != at || e != want {
			t.Fatalf("Check(%v): %d, error %d, want %d, %d", l, i, e, at, want)
		}
	}
	for _, e := range []api.Errno{api.OK, api.ErrArg, api.ErrTwice, api.ErrTime, api.ErrNone, api.ErrState} {
		if seen[e] < 20 {
			t.Errorf("error %d only %d times", e, seen[e])
		}
	}
}

func lastDay(l []api.Item) int {
	if len(l) == 0 {
		return 0
	}
	return l[len(l)-1].Known
}

// TestDays is B2 and B3: what counts on each day.
func TestDays(t *testing.T) {
	eachCatalogue(t, 400, func(l []api.Item) {
		for _, day := range days(l) {
			c, e := sherd.Counting(l, day)
			wantList(t, "Counting", c, e, count(l, day)...)
			var want []api.Sherd
			var wares []string
			limits := map[string]api.Item{}
			for _, x := range count(l, day) {
				switch x.Kind {
				case 1:
					want = append(want, api.Sherd{Id: x.Id, Ware: x.Ware, Pit: x.Pit, Layer: x.Layer, Corners: x.Corners, Foot: x.Foot})
					wares = append(wares, x.Ware)
				case 6:
					limits[x.Ware] = x
				}
			}
			slices.SortFunc(want, func(a, b api.Sherd) int { return cmp.Compare(a.Id, b.Id) })
			slices.Sort(wares)
			got, e := sherd.Sherds(l, day)
			wantList(t, "Sherds", got, e, want...)
			names, e := sherd.Wares(l, day)
			wantList(t, "Wares", names, e, slices.Compact(wares)...)
			for _, ware := range []string{"bell", "cord", "b", "", "No name"} {
				if limit, by, e := sherd.LimitOf(l, day, ware); limit != limits[ware].Limit || by != limits[ware].Id || e != api.OK {
					t.Errorf("LimitOf(%v, %d, %q): %d, %d, error %d", l, day, ware, limit, by, e)
				}
			}
			for id := range 42 {
				i := slices.IndexFunc(want, func(s api.Sherd) bool { return s.Id == id })
				s, e := sherd.SherdOf(l, day, id)
				if i < 0 && (s != api.Sherd{} || e != api.ErrSherd) || i >= 0 && (s != want[i] || e != api.OK) {
					t.Errorf("SherdOf(%v, %d, %d): %v, error %d", l, day, id, s, e)
				}
			}
		}
	})
}

// TestSameDay has an item and its withdrawal on one day, two limits on one day, and a day before all items.
func TestSameDay(t *testing.T) {
	l := read(t, "1 4 sherd bell 1 1 3", "2 4 limit bell 3", "3 4 limit bell 5", "4 4 colour 1 0 9", "5 4 void 4", "6 7 void 3", "7 7 void 1", "8 7 sherd bell 1 1 5")
	for day, want := range map[int]string{3: "", 4: "1 2 3", 6: "1 2 3", 7: "2 8"} {
		c, e := sherd.Counting(l, day)
		var got []string
		for _, x := range c {
			line, _ := sherd.Write(x)
			got = append(got, line[:1])
		}
		if strings.Join(got, " ") != want || e != api.OK {
			t.Errorf("Counting on day %d: %v, error %d", day, c, e)
		}
	}
	for day, want := range map[int][2]int{3: {0, 0}, 4: {5, 3}, 7: {3, 2}} {
		if limit, by, e := sherd.LimitOf(l, day, "bell"); limit != want[0] || by != want[1] || e != api.OK {
			t.Errorf("LimitOf on day %d: %d, %d, error %d", day, limit, by, e)
		}
	}
	if s, e := sherd.Sherds(l, math.MinInt); len(s) != 0 || e != api.OK {
		t.Errorf("Sherds long ago: %v, error %d", s, e)
	}
}
