package stratum_test

import (
	"math"
	"slices"
	"testing"

	"conjoin/api"
	"conjoin/stratum"
)

// goodTraces are well-formed, with what is just allowed.
func goodTraces() []api.Trace {
	return []api.Trace{
		{Id: 1, Kind: 1, Pit: 1, Layer: 1, Lower: 2}, {Id: 1000000, Known: 100000, Kind: 1, Pit: 20, Layer: 50, Lower: 1}, {Id: 7, Known: 3, Kind: 1, Pit: 2, Layer: 1, Lower: 50},
		{Id: 1, Kind: 2, Pit: 1, Layer: 1}, {Id: 1, Kind: 2, Pit: 20, Layer: 50, Low: -10000, High: 10000}, {Id: 1, Kind: 2, Pit: 1, Layer: 1, Low: 10000, High: 10000},
		{Id: 1, Kind: 2, Pit: 1, Layer: 1, Low: -10000, High: -10000}, {Id: 1, Kind: 2, Pit: 1, Layer: 1, Low: -3, High: 0}, {Id: 1, Kind: 2, Pit: 1, Layer: 1, High: 4},
		{Id: 1, Kind: 3, Pit: 1, Layer: 1, Cost: 1}, {Id: 1, Kind: 3, Pit: 20, Layer: 50, Cost: 1000},
		{Id: 1, Kind: 4, Of: 1}, {Id: 1, Kind: 4, Of: 1000000},
	}
}

// badTraces are not well-formed: each one has one field that is not as said.
func badTraces() []api.Trace {
	var l []api.Trace
	add := func(x api.Trace, field func(x *api.Trace) *int, values ...int) {
		for _, n := range values {
			y := x
			*field(&y) = n
			l = append(l, y)
		}
	}
	above := api.Trace{Id: 1, Kind: 1, Pit: 1, Layer: 1, Lower: 2}
	dated := api.Trace{Id: 1, Kind: 2, Pit: 1, Layer: 1, Low: -3, High: 4}
	moved := api.Trace{Id: 1, Kind: 3, Pit: 1, Layer: 1, Cost: 5}
	void := api.Trace{Id: 1, Kind: 4, Of: 2}
	far := []int{-1, math.MinInt, math.MaxInt}
	for _, x := range []api.Trace{above, dated, moved, void} {
		add(x, func(x *api.Trace) *int { return &x.Id }, append(far, 0, 1000001)...)
		add(x, func(x *api.Trace) *int { return &x.Known }, append(far, 100001)...)
		for _, kind := range []uint8{0, 5, 6, 255} {
			y := x
			y.Kind = kind
			l = append(l, y)
		}
	}
	for _, x := range []api.Trace{above, dated, moved} {
		add(x, func(x *api.Trace) *int { return &x.Pit }, append(far, 0, 21)...)
		add(x, func(x *api.Trace) *int { return &x.Layer }, append(far, 0, 51)...)
		add(x, func(x *api.Trace) *int { return &x.Of }, append(far, 1)...)
	}
	add(above, func(x *api.Trace) *int { return &x.Lower }, append(far, 0, 1, 51)...)
	add(dated, func(x *api.Trace) *int { return &x.Low }, math.MinInt, -10001, 5, math.MaxInt)
	add(dated, func(x *api.Trace) *int { return &x.High }, math.MinInt, -4, 10001, math.MaxInt)
	add(moved, func(x *api.Trace) *int { return &x.Cost }, append(far, 0, 1001)...)
	add(void, func(x *api.Trace) *int { return &x.Of }, append(far, 0, 1000001)...)
	for _, x := range []api.Trace{dated, moved, void} {
		add(x, func(x *api.Trace) *int { return &x.Lower }, append(far, 1)...)
	}
	for _, x := range []api.Trace{above, moved, void} {
		add(x, func(x *api.Trace) *int { return &x.Low }, append(far, 1)...)
		add(x, func(x *api.Trace) *int { return &x.High }, append(far, 1)...)
	}
	for _, x := range []api.Trace{above, dated, void} {
		add(x, func(x *api.Trace) *int { return &x.Cost }, append(far, 1)...)
	}
	add(void, func(x *api.Trace) *int { return &x.Pit }, append(far, 1)...)
	add(void, func(x *api.Trace) *int { return &x.Layer }, append(far, 1)...)
	return append(l, api.Trace{}, api.Trace{Id: 1, Kind: 2, Pit: 1, Layer: 1, Low: math.MinInt, High: math.MaxInt})
}

// TestCheckTrace is CheckTrace of H1.
func TestCheckTrace(t *testing.T) {
	for _, x := range goodTraces() {
		want(t, x, all(stratum.CheckTrace(x)), all(api.OK))
	}
	for _, x := range badTraces() {
		want(t, x, all(stratum.CheckTrace(x)), all(api.ErrArg))
	}
}

// refusal is why a list cannot go on with a trace.
func refusal(l []api.Trace, x api.Trace) api.Errno {
	is := func(f func(y api.Trace) bool) bool { return slices.ContainsFunc(l, f) }
	switch {
	case len(l) == 140:
		return api.ErrLimit
	case stratum.CheckTrace(x) != api.OK:
		return api.ErrArg
	case is(func(y api.Trace) bool { return y.Id == x.Id }):
		return api.ErrTwice
	case len(l) > 0 && x.Known < l[len(l)-1].Known:
		return api.ErrTime
	case x.Kind != api.TraceVoid:
		return api.OK
	case !is(func(y api.Trace) bool { return y.Kind != api.TraceVoid && y.Id == x.Of }):
		return api.ErrNone
	case is(func(y api.Trace) bool { return y.Kind == api.TraceVoid && y.Of == x.Of }):
		return api.ErrTwice
	}
	return api.OK
}

// refused is the first trace that a log refuses, and why.
func refused(l []api.Trace) (int, api.Errno) {
	for i, x := range l {
		if e := refusal(l[:i], x); e != api.OK {
			return i, e
		}
	}
	return 0, api.OK
}

// anyNext is a trace that may be refused behind a log.
func (d dice) anyNext(l []api.Trace) api.Trace {
	x := d.anyTrace(area{2, 3}, []int{1, 2, 3})
	if d.IntN(2) == 0 {
		x = api.Trace{Kind: api.TraceVoid, Of: 1 + d.IntN(2*len(l)+2)}
	}
	x.Id, x.Known = 1+d.IntN(3*len(l)+3), 3
	if d.IntN(3) == 0 {
		x.Known = d.IntN(5)
	}
	if d.IntN(6) == 0 {
		x = badTraces()[d.IntN(len(badTraces()))]
	}
	return x
}

// TestCheck is Check, Append and Counting of H1.
func TestCheck(t *testing.T) {
	d := newDice(1)
	met := map[api.Errno]int{}
	for range 4000 {
		l := d.anyLog(d.IntN(10), area{2, 3})
		x := d.anyNext(l)
		longer := append(slices.Clone(l), x)
		i, e := refused(longer)
		met[e]++
		want(t, longer, all(stratum.Check(longer)), all(i, e))
		if e == api.OK {
			want(t, longer, all(stratum.Append(l, x)), all(longer, e))
		} else {
			want(t, longer, all(stratum.Append(l, x)), all([]api.Trace{}, e))
			want(t, longer, all(stratum.Counting(longer, 5)), all([]api.Trace{}, e))
		}
		longer = append(longer, d.anyNext(l), d.anyNext(l))
		i, e = refused(longer)
		want(t, longer, all(stratum.Check(longer)), all(i, e))
		_, e = refused(longer[:len(l)+2])
		y := longer[len(l)+2]
		if e == api.OK {
			e = refusal(longer[:len(l)+2], y)
		}
		_, got := stratum.Append(longer[:len(l)+2], y)
		want(t, longer, all(got), all(e))
		for day := -1; day < 6; day++ {
			want(t, all(l, day), all(stratum.Counting(l, day)), all(countingOf(l, day), api.OK))
		}
	}
	for _, e := range []api.Errno{api.OK, api.ErrArg, api.ErrTwice, api.ErrTime, api.ErrNone} {
		if met[e] < 100 {
			t.Errorf("error %d only %d times", e, met[e])
		}
	}
	for _, day := range []int{math.MinInt, math.MaxInt} {
		l := d.anyLog(20, area{2, 3})
		want(t, day, all(stratum.Counting(l, day)), all(countingOf(l, day), api.OK))
	}
}

// TestVoid is which error a TraceVoid has.
func TestVoid(t *testing.T) {
	l := lines(t, "5 0 above 1 1 2", "6 0 dated 1 1 0 9", "7 1 void 5", "8 1 moved 1 1 3")
	for line, e := range map[string]api.Errno{
		"9 1 void 6": api.OK, "9 1 void 8": api.OK, "9 1 void 5": api.ErrTwice, "9 1 void 7": api.ErrNone, "9 1 void 9": api.ErrNone, "9 1 void 4": api.ErrNone,
		"7 1 void 6": api.ErrTwice, "6 0 void 6": api.ErrTwice, "9 0 void 6": api.ErrTime, "9 0 void 5": api.ErrTime, "9 0 void 7": api.ErrTime,
	} {
		x, f := stratum.Read(line)
		want(t, line, all(f), all(api.OK))
		_, got := stratum.Append(l, x)
		want(t, line, all(got), all(e))
	}
	v := append(slices.Clone(l), lines(t, "5 0 above 1 1 2", "9 3 void 5")[1])
	want(t, "twice", all(stratum.Check(v)), all(4, api.ErrTwice))
}

// TestManyTraces is the limit of a log.
func TestManyTraces(t *testing.T) {
	var l []api.Trace
	for i := range 140 {
		l = append(l, api.Trace{Id: i + 1, Kind: api.TraceMoved, Pit: 1, Layer: 1, Cost: 1})
	}
	more := api.Trace{Id: 141, Kind: api.TraceVoid, Of: 3}
	want(t, 140, all(stratum.Check(l)), all(0, api.OK))
	want(t, 139, all(stratum.Append(l[:139], l[139])), all(l, api.OK))
	want(t, 141, all(stratum.Check(append(l, more))), all(140, api.ErrLimit))
	want(t, "bad ones", all(stratum.Check(append(l, api.Trace{}, more))), all(140, api.ErrLimit))
	want(t, "an earlier one", all(stratum.Check(append(append(l[:7:7], api.Trace{}), l...))), all(7, api.ErrArg))
	for _, x := range []api.Trace{more, l[0], {}} {
		want(t, x, all(stratum.Append(l, x)), all([]api.Trace{}, api.ErrLimit))
	}
	_, e := stratum.Append(append(l, more), more)
	want(t, "too long before", all(e), all(api.ErrLimit))
}

// TestCheckBonds is CheckBonds of H2.
func TestCheckBonds(t *testing.T) {
	good := api.Bond{A: at(1, 1), B: at(20, 50), By: 1}
	list := func(n int, more ...api.Bond) []api.Bond { return append(slices.Repeat([]api.Bond{good}, n), more...) }
	want(t, "none", all(stratum.CheckBonds(nil)), all(api.OK))
	want(t, "one of a pit", all(stratum.CheckBonds(list(0, api.Bond{A: at(3, 2), B: at(3, 1), By: 1000000}))), all(api.OK))
	want(t, "one of a layer", all(stratum.CheckBonds(list(0, api.Bond{A: at(3, 2), B: at(4, 2), By: 7}))), all(api.OK))
	want(t, "60", all(stratum.CheckBonds(list(60))), all(api.OK))
	want(t, "61", all(stratum.CheckBonds(list(61))), all(api.ErrLimit))
	want(t, "61 bad ones", all(stratum.CheckBonds(make([]api.Bond, 61))), all(api.ErrLimit))
	bad := []api.Bond{{}, {A: at(1, 1), B: at(1, 1), By: 4}, {A: at(20, 50), B: at(20, 50), By: 4}}
	for _, by := range []int{0, -1, 1000001, math.MinInt, math.MaxInt} {
		bad = append(bad, api.Bond{A: good.A, B: good.B, By: by})
	}
	for _, p := range badPlaces() {
		bad = append(bad, api.Bond{A: p, B: good.B, By: 4}, api.Bond{A: good.A, B: p, By: 4})
	}
	for _, b := range bad {
		want(t, b, all(stratum.CheckBonds([]api.Bond{b})), all(api.ErrArg))
		want(t, b, all(stratum.CheckBonds(list(59, b))), all(api.ErrArg))
		want(t, b, all(stratum.CheckBonds(list(60, b))), all(api.ErrLimit))
	}
}

// badPlaces are no places; the first one is the year.
func badPlaces() []api.Place {
	return []api.Place{{}, at(0, 1), at(1, 0), at(-1, 1), at(1, -1), at(21, 1), at(1, 51), at(math.MinInt, 1), at(1, math.MaxInt)}
}

// TestPlaces is Places and Movable of H2.
func TestPlaces(t *testing.T) {
	many, movable := 0, 0
	eachSite(t, 2, 1500, func(d dice, s site) {
		want(t, s, all(stratum.Places(s.l, s.day, s.b)), all(s.places(), api.OK))
		want(t, s, all(stratum.Movable(s.l, s.day, s.b)), all(s.admits(), api.OK))
		many, movable = max(many, len(s.places())), max(movable, len(s.admits()))
	})
	if many < 10 || movable < 6 {
		t.Errorf("at most %d places, %d movable", many, movable)
	}
}

// row are so many traces, of layers in a row.
func row(n int, x api.Trace) []api.Trace {
	var l []api.Trace
	for i := range n {
		x.Id, x.Pit, x.Layer = i+1, 1+i/50, 1+i%50
		l = append(l, x)
	}
	return l
}

// TestManyPlaces is ErrLimit for too many places, or movable ones.
func TestManyPlaces(t *testing.T) {
	dated := api.Trace{Kind: api.TraceDated}
	moved := api.Trace{Kind: api.TraceMoved, Cost: 4}
	void := func(l []api.Trace, of int) []api.Trace {
		return append(l, api.Trace{Id: 999, Known: 5, Kind: api.TraceVoid, Of: of})
	}
	for _, x := range []struct {
		name string
		site
		e api.Errno
	}{
		{"50 places", site{l: row(50, dated)}, api.OK},
		{"51 places", site{l: row(51, dated)}, api.ErrLimit},
		{"51 places, not yet known", site{l: row(51, dated), day: -1}, api.OK},
		{"51 places, one withdrawn later", site{l: void(row(51, dated), 3), day: 4}, api.ErrLimit},
		{"51 places, one withdrawn", site{l: void(row(51, dated), 3), day: 5}, api.OK},
		{"50 places, and a bond of these", site{l: row(50, dated), b: []api.Bond{{A: at(1, 1), B: at(1, 2), By: 3}}}, api.OK},
		{"50 places, and a bond of another one", site{l: row(50, dated), b: []api.Bond{{A: at(1, 1), B: at(2, 2), By: 3}}}, api.ErrLimit},
		{"a layer below 50", site{l: append(row(50, dated), api.Trace{Id: 999, Kind: 1, Pit: 2, Layer: 1, Lower: 2})}, api.ErrLimit},
		{"8 movable", site{l: row(8, moved)}, api.OK},
		{"9 movable", site{l: row(9, moved)}, api.ErrLimit},
		{"9 movable, not yet known", site{l: row(9, moved), day: -1}, api.OK},
		{"9 movable, one withdrawn", site{l: void(row(9, moved), 9), day: 5}, api.OK},
		{"8 movable, one of them twice", site{l: append(row(8, moved), api.Trace{Id: 999, Kind: 3, Pit: 1, Layer: 1, Cost: 9})}, api.OK},
		{"bonds that are none", site{l: row(51, dated), b: make([]api.Bond, 1)}, api.ErrArg},
		{"no log", site{l: append(row(51, dated), api.Trace{Id: 1, Known: 5, Kind: 4, Of: 1})}, api.ErrTwice},
	} {
		for name, e := range errorsOf(x.site, nil, api.Place{}, api.Place{}) {
			want(t, all(x.name, name), all(e), all(x.e))
		}
	}
}

// errorsOf are the errors of the functions with a log and bonds, with some admitted places, and with two places.
func errorsOf(s site, moved []api.Place, from, to api.Place) map[string]api.Errno {
	m := map[string]api.Errno{}
	for _, x := range []map[string]api.Errno{ofKnown(s), ofMoved(s, moved), ofTwo(s, moved, from, to)} {
		for name, e := range x {
			m[name] = e
		}
	}
	return m
}

// ofKnown are the errors of functions without admitted places, which need no dates.
func ofKnown(s site) map[string]api.Errno {
	m := map[string]api.Errno{}
	_, m["Places"] = stratum.Places(s.l, s.day, s.b)
	_, m["Movable"] = stratum.Movable(s.l, s.day, s.b)
	_, m["Proof"] = stratum.Proof(s.l, s.day, s.b)
	_, m["CheckProof"] = stratum.CheckProof(s.l, s.day, s.b, 0, nil)
	return m
}

// ofCheapest are the errors of functions that need dates, whatever is admitted.
func ofCheapest(s site) map[string]api.Errno {
	m := map[string]api.Errno{}
	_, _, m["Cheapest"] = stratum.Cheapest(s.l, s.day, s.b)
	_, m["Sets"] = stratum.Sets(s.l, s.day, s.b)
	return m
}

// ofMoved are the errors of functions with admitted places alone.
func ofMoved(s site, moved []api.Place) map[string]api.Errno {
	m := map[string]api.Errno{}
	_, m["Links"] = stratum.Links(s.l, s.day, s.b, moved)
	_, _, m["Dates"] = stratum.Dates(s.l, s.day, s.b, moved)
	_, m["CheckDates"] = stratum.CheckDates(s.l, s.day, s.b, moved, nil)
	_, _, m["Conflict"] = stratum.Conflict(s.l, s.day, s.b, moved)
	_, m["CheckConflict"] = stratum.CheckConflict(s.l, s.day, s.b, moved, nil)
	return m
}

// ofTwo are the errors of functions with two places.
func ofTwo(s site, moved []api.Place, from, to api.Place) map[string]api.Errno {
	m := map[string]api.Errno{}
	_, _, m["Between"] = stratum.Between(s.l, s.day, s.b, moved, from, to)
	_, _, m["Path"] = stratum.Path(s.l, s.day, s.b, moved, from, to)
	_, m["Earlier"] = stratum.Earlier(s.l, s.day, s.b, from, to)
	return m
}

// TestErrors is the order of the errors.
func TestErrors(t *testing.T) {
	s := example(t, 2)
	wantAll := func(what any, m map[string]api.Errno, e api.Errno) {
		t.Helper()
		for name, got := range m {
			want(t, all(what, name), all(got), all(e))
		}
	}
	flat := site{append(slices.Clone(s.l), api.Trace{Id: 6}), 2, make([]api.Bond, 61)}
	torn := site{append(slices.Clone(s.l), s.l[5]), 2, make([]api.Bond, 61)}
	loose := site{row(51, api.Trace{Kind: 2}), 2, make([]api.Bond, 61)}
	bare := site{loose.l, 2, make([]api.Bond, 1)}
	full := site{loose.l, 2, nil}
	turned := []api.Place{at(2, 1), at(1, 1), at(1, 2)}
	for _, x := range []struct {
		site
		e api.Errno
	}{{flat, api.ErrArg}, {torn, api.ErrTwice}, {loose, api.ErrLimit}, {bare, api.ErrArg}, {full, api.ErrLimit}} {
		wantAll(x.site, errorsOf(x.site, turned, at(9, 9), at(9, 9)), x.e)
		wantAll(x.site, ofCheapest(x.site), x.e)
	}
	// Admitted places are checked ahead of two places, and these ahead of whether there are dates.
	for _, x := range []struct {
		moved []api.Place
		e     api.Errno
	}{
		{turned, api.ErrArg}, {[]api.Place{at(1, 1), at(1, 1)}, api.ErrArg}, {[]api.Place{at(1, 2), at(1, 1)}, api.ErrArg}, {[]api.Place{at(1, 1), at(2, 1), at(1, 9)}, api.ErrArg},
		{[]api.Place{at(1, 2)}, api.ErrMoved}, {[]api.Place{{}}, api.ErrMoved}, {[]api.Place{at(1, 1), at(1, 2), at(2, 1)}, api.ErrMoved}, {[]api.Place{at(math.MinInt, 0), at(math.MaxInt, 0)}, api.ErrMoved},
		{[]api.Place{at(1, 1), at(3, 1)}, api.ErrMoved},
	} {
		wantAll(x.moved, ofMoved(s, x.moved), x.e)
		two := ofTwo(s, x.moved, at(9, 9), at(1, 1))
		delete(two, "Earlier")
		wantAll(x.moved, two, x.e)
	}
	early := example(t, 1)
	wantAll("not yet movable", ofMoved(early, []api.Place{at(1, 1)}), api.ErrMoved)
	for _, p := range append(badPlaces()[1:], at(1, 4), at(2, 2), at(3, 1)) {
		for _, two := range [][2]api.Place{{p, at(1, 1)}, {at(1, 1), p}, {p, p}, {p, {}}} {
			wantAll(two, ofTwo(s, nil, two[0], two[1]), api.ErrNone)
			wantAll(two, ofTwo(early, nil, two[0], two[1]), api.ErrNone)
		}
	}
	for _, two := range [][2]api.Place{{at(1, 1), at(1, 2)}, {{}, at(2, 1)}, {at(1, 3), {}}, {{}, {}}, {at(1, 1), at(1, 1)}} {
		wantAll(two, ofTwo(early, nil, two[0], two[1]), api.ErrYears)
		wantAll(two, ofTwo(s, []api.Place{at(2, 1)}, two[0], two[1]), api.OK)
	}
	wantAll("no dates", ofCheapest(early), api.ErrYears)
	wantAll("no dates", ofMoved(early, nil), api.OK)
	wantAll("no dates", ofKnown(early), api.OK)
	wantAll("dates", ofCheapest(s), api.OK)
	wantAll("no places", ofTwo(site{}, nil, api.Place{}, api.Place{}), api.OK)
}
