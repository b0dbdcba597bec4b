package edge_test

import (
	"math"
	"slices"
	"testing"

	"conjoin/api"
	"conjoin/edge"
)

// many are bounds of the points 0 and 1 that anything near keeps.
func many(n int) []api.Bound {
	return slices.Repeat([]api.Bound{bound(0, 1, 1000, 0)}, n)
}

// refused are outlines that are none, with their errors.
func refused() []struct {
	name string
	o    api.Outline
	e    api.Errno
} {
	ways := func(x ...api.Bound) api.Outline { return api.Outline{Corners: 3, Ways: x} }
	turns := func(x ...api.Bound) api.Outline { return api.Outline{Corners: 3, Turns: x} }
	return []struct {
		name string
		o    api.Outline
		e    api.Errno
	}{
		{"no corners", api.Outline{}, api.ErrArg},
		{"2 corners", api.Outline{Corners: 2}, api.ErrArg},
		{"17 corners", api.Outline{Corners: 17}, api.ErrArg},
		{"least corners", api.Outline{Corners: math.MinInt}, api.ErrArg},
		{"greatest corners", api.Outline{Corners: math.MaxInt}, api.ErrArg},
		{"2 corners, 401 ways", api.Outline{Corners: 2, Ways: many(401)}, api.ErrArg},
		{"401 ways", ways(many(401)...), api.ErrLimit},
		{"401 turns", turns(many(401)...), api.ErrLimit},
		{"401 ways, turn of one side", api.Outline{Corners: 3, Ways: many(401), Turns: []api.Bound{bound(1, 1, 0, 0)}}, api.ErrLimit},
		{"way of one corner, 401 turns", api.Outline{Corners: 3, Ways: []api.Bound{bound(1, 1, 0, 0)}, Turns: many(401)}, api.ErrArg},
		{"way from a corner that there is not", ways(bound(4, 0, 0, 0)), api.ErrArg},
		{"way to a corner that there is not", ways(bound(0, 4, 0, 0)), api.ErrArg},
		{"way from a corner below 0", ways(bound(-1, 0, 0, 0)), api.ErrArg},
		{"way, too far", ways(bound(0, 1, 1000001, 0)), api.ErrArg},
		{"way, too far back", ways(bound(0, 1, -1000001, 0)), api.ErrArg},
		{"way, By too great", ways(bound(0, 1, 0, 1000001)), api.ErrArg},
		{"way, By below 0", ways(bound(0, 1, 0, -1)), api.ErrArg},
		{"turn of one side", turns(bound(1, 1, 0, 0)), api.ErrArg},
		{"turn from a side that there is not", turns(bound(3, 0, 0, 0)), api.ErrArg},
		{"turn to a side that there is not", turns(bound(0, 3, 0, 0)), api.ErrArg},
		{"turn, too far", turns(bound(0, 1, 1000001, 0)), api.ErrArg},
		{"turn, By below 0", turns(bound(0, 1, 0, -1)), api.ErrArg},
	}
}

// TestCheckOutline is C1, with the limits just kept and just passed.
func TestCheckOutline(t *testing.T) {
	for _, x := range refused() {
		wantErr(t, x.name, edge.CheckOutline(x.o), x.e)
	}
	full := api.Outline{Corners: 16, Ways: many(400), Turns: many(400)}
	full.Ways[7] = bound(16, 0, -1000000, 1000000)
	full.Turns[7] = bound(15, 0, 1000000, 1000000)
	for _, o := range []api.Outline{first(), second(), turned(), {Corners: 3}, {Corners: 16}, full} {
		wantErr(t, "outline", edge.CheckOutline(o), api.OK)
	}
	full.Turns[7].From = 16
	wantErr(t, "turn of side 16", edge.CheckOutline(full), api.ErrArg)
	full.Ways[7].From = 17
	wantErr(t, "way of corner 17", edge.CheckOutline(full), api.ErrArg)
}

// TestCheckPairing is C1: stretches that there are not, and those that have not as many sides.
func TestCheckPairing(t *testing.T) {
	a, b := api.Outline{Corners: 3}, api.Outline{Corners: 5}
	for _, x := range []struct {
		p api.Pairing
		e api.Errno
	}{
		{pairing(0, 1, 0, 1), api.OK},
		{pairing(2, 3, 4, 5), api.OK},
		{pairing(0, 3, 0, 3), api.OK},
		{pairing(0, 3, 2, 5), api.OK},
		{pairing(0, 4, 0, 4), api.ErrArg},
		{pairing(2, 4, 0, 2), api.ErrArg},
		{pairing(0, 2, 4, 6), api.ErrArg},
		{pairing(1, 1, 1, 1), api.ErrArg},
		{pairing(0, 1, 1, 1), api.ErrArg},
		{pairing(2, 1, 2, 1), api.ErrArg},
		{pairing(-1, 1, 0, 2), api.ErrArg},
		{pairing(0, 2, -1, 1), api.ErrArg},
		{pairing(0, 1, 5, 4), api.ErrArg},
		{pairing(0, 4, 0, 5), api.ErrArg},
		{pairing(0, 3, 0, 6), api.ErrArg},
		{pairing(math.MinInt, math.MaxInt, math.MinInt, math.MaxInt), api.ErrArg},
		{pairing(0, 1, math.MaxInt, math.MinInt), api.ErrArg},
		{api.Pairing{}, api.ErrArg},
		{pairing(0, 2, 0, 1), api.ErrBare},
		{pairing(0, 3, 0, 5), api.ErrBare},
		{pairing(2, 3, 0, 2), api.ErrBare},
	} {
		wantErr(t, name(x.p), edge.CheckPairing(a, b, x.p), x.e)
	}
	// A is of a, and B of b.
	wantErr(t, "A of b", edge.CheckPairing(a, b, pairing(3, 5, 0, 2)), api.ErrArg)
	wantErr(t, "turned round", edge.CheckPairing(b, a, pairing(3, 5, 0, 2)), api.OK)
}

// TestWith is C2.
func TestWith(t *testing.T) {
	x := bound(2, 0, -7, 12)
	o, e := edge.With(first(), false, x)
	wantList(t, "With: ways", o.Ways, e, append(first().Ways, x)...)
	wantList(t, "With: turns", o.Turns, e, first().Turns...)
	if o.Corners != 3 {
		t.Errorf("With: %d corners", o.Corners)
	}
	o, e = edge.With(first(), true, x)
	wantList(t, "With, turns: ways", o.Ways, e, first().Ways...)
	wantList(t, "With, turns: turns", o.Turns, e, append(first().Turns, x)...)
	if o.Corners != 3 {
		t.Errorf("With: %d corners", o.Corners)
	}
	for _, y := range []struct {
		name  string
		o     api.Outline
		turns bool
		x     api.Bound
		e     api.Errno
	}{
		{"the last corner", first(), false, bound(3, 0, 0, 0), api.OK},
		{"no side", first(), true, bound(3, 0, 0, 0), api.ErrArg},
		{"the last side", first(), true, bound(2, 0, 0, 0), api.OK},
		{"no corner", first(), false, bound(4, 0, 0, 0), api.ErrArg},
		{"one corner", first(), false, bound(1, 1, 0, 0), api.ErrArg},
		{"the 400th way", api.Outline{Corners: 3, Ways: many(399)}, false, x, api.OK},
		{"the 401st way", api.Outline{Corners: 3, Ways: many(400)}, false, x, api.ErrLimit},
		{"the 401st way, and no corner", api.Outline{Corners: 3, Ways: many(400)}, false, bound(4, 0, 0, 0), api.ErrLimit},
		{"a turn beside 400 ways", api.Outline{Corners: 3, Ways: many(400)}, true, x, api.OK},
		{"the 401st turn", api.Outline{Corners: 3, Turns: many(400)}, true, x, api.ErrLimit},
		{"a way beside 400 turns", api.Outline{Corners: 3, Turns: many(400)}, false, x, api.OK},
		{"the 401st way, and what was no turn before it", api.Outline{Corners: 3, Ways: many(400), Turns: []api.Bound{bound(1, 1, 0, 0)}}, false, x, api.ErrArg},
	} {
		got, e := edge.With(y.o, y.turns, y.x)
		wantErr(t, y.name, e, y.e)
		if e != api.OK && (got.Corners != 0 || len(got.Ways)+len(got.Turns) != 0) {
			t.Errorf("%s: %v beside an error", y.name, got)
		}
	}
	for _, y := range refused() {
		for _, turns := range []bool{false, true} {
			_, e := edge.With(y.o, turns, x)
			wantErr(t, "With, "+y.name, e, y.e)
		}
	}
}

// TestFlaws is C3: a flaw has the fewest bounds, and the ways come first.
func TestFlaws(t *testing.T) {
	flaws := 0
	one := func(o api.Outline) {
		f, is, e := edge.Flaw(o)
		ways, turns := api.System{Points: o.Corners + 1, Bounds: o.Ways}, api.System{Points: o.Corners, Bounds: o.Turns}
		least, s := fewest(ways), ways
		if least == 0 {
			least, s = fewest(turns), turns
		}
		wantBool(t, "Flaw", is, e, least > 0)
		ok, e := edge.CheckFlaw(o, f)
		wantBool(t, "CheckFlaw", ok, e, is)
		if !is {
			if f.Turns || len(f.Circle) != 0 {
				t.Errorf("Flaw: %v, but none", f)
			}
			return
		}
		flaws++
		if f.Turns != (fewest(ways) == 0) || len(f.Circle) != least || !isCircle(s, f.Circle) {
			t.Errorf("Flaw(%v): %v, but there is one of %d bounds", o, f, least)
		}
		ok, e = edge.CheckFlaw(o, api.Flaw{Turns: f.Turns, Circle: f.Circle[1:]})
		wantBool(t, "CheckFlaw, less", ok, e, false)
	}
	eachTwo(900, func(a, b api.Outline) { one(a); one(b) })
	if flaws < 50 {
		t.Errorf("only %d flaws", flaws)
	}
	for _, x := range refused() {
		_, _, e := edge.Flaw(x.o)
		wantErr(t, "Flaw, "+x.name, e, x.e)
		_, e = edge.CheckFlaw(x.o, api.Flaw{})
		wantErr(t, "CheckFlaw, "+x.name, e, x.e)
	}
}

// TestCheckFlaw is C3: lists that are flaws, and lists that are none.
func TestCheckFlaw(t *testing.T) {
	o := api.Outline{
		Corners: 3,
		Ways:    []api.Bound{bound(0, 1, 5, 1), bound(1, 0, -6, 2), bound(1, 2, 9, 3), bound(2, 1, -9, 4), bound(2, 0, -20, 5)},
		Turns:   []api.Bound{bound(0, 1, 5, 1), bound(1, 0, -5, 2), bound(1, 2, 1, 3), bound(2, 0, -7, 4)},
	}
	for _, x := range []struct {
		turns  bool
		circle []int
		want   bool
	}{
		{false, []int{0, 1}, true}, {false, []int{1, 0}, true}, {false, []int{0, 2, 4}, true}, {false, []int{4, 0, 2}, true},
		{false, []int{2, 3}, false}, {false, []int{0, 4, 2}, false}, {false, []int{0, 2}, false}, {false, nil, false}, {false, []int{1}, false},
		{false, []int{0, 1, 0, 1}, false}, {false, []int{0, 5}, false}, {false, []int{-1, 0}, false}, {false, []int{math.MinInt, math.MaxInt}, false},
		{true, []int{0, 2, 3}, true}, {true, []int{0, 1}, false}, {true, []int{0, 2, 4}, false},
	} {
		ok, e := edge.CheckFlaw(o, api.Flaw{Turns: x.turns, Circle: x.circle})
		if ok != x.want || e != api.OK {
			t.Errorf("CheckFlaw %v %v: %v, error %d", x.turns, x.circle, ok, e)
		}
	}
	f, is, e := edge.Flaw(o)
	wantBool(t, "Flaw", is, e, true)
	slices.Sort(f.Circle)
	wantList(t, "Flaw", f.Circle, api.OK, 0, 1)
}

// TestOverlap is C10, for any numbers, and P3.8 for those of an outline.
func TestOverlap(t *testing.T) {
	numbers := []int{math.MinInt, -3, -1, 0, 1, 2, 3, 5, math.MaxInt}
	for _, i := range numbers {
		for _, j := range numbers {
			for _, m := range numbers {
				for _, n := range numbers {
					// Of the sides that are in both, the first one is where one of them begins.
					want := false
					for _, x := range []int{i, m} {
						want = want || i <= x && x < j && m <= x && x < n
					}
					if got := edge.Overlap(api.Stretch{From: i, To: j}, api.Stretch{From: m, To: n}); got != want {
						t.Fatalf("Overlap of %d to %d, and %d to %d: %v", i, j, m, n, got)
					}
				}
			}
		}
	}
	for _, corners := range []int{3, 6, 16} {
		o := api.Outline{Corners: corners}
		for _, p := range pairings(o, o) {
			bare, e := edge.Bare(o, []api.Stretch{p.A})
			lacks := false
			for i := p.B.From; i < p.B.To; i++ {
				lacks = lacks || !slices.Contains(bare, i)
			}
			if got := edge.Overlap(p.A, p.B); got != lacks || e != api.OK {
				t.Fatalf("Overlap %s: %v, but Bare: %v, error %d", name(p), got, bare, e)
			}
		}
	}
}

// TestBare is C10.
func TestBare(t *testing.T) {
	a := first()
	bare := func(o api.Outline, l ...api.Stretch) ([]int, api.Errno) { return edge.Bare(o, l) }
	l, e := bare(a, api.Stretch{From: 0, To: 1})
	wantList(t, "the row of the examples", l, e, 1, 2)
	l, e = bare(a)
	wantList(t, "no stretch", l, e, 0, 1, 2)
	l, e = bare(a, api.Stretch{From: 0, To: 3})
	wantList(t, "the whole outline", l, e)
	l, e = bare(a, api.Stretch{From: 2, To: 3}, api.Stretch{From: 0, To: 1})
	wantList(t, "both ends", l, e, 1)
	l, e = bare(api.Outline{Corners: 16}, api.Stretch{From: 1, To: 3}, api.Stretch{From: 2, To: 15})
	wantList(t, "16 corners", l, e, 0, 15)
	l, e = bare(api.Outline{Corners: 16}, slices.Repeat([]api.Stretch{{From: 1, To: 16}}, 100)...)
	wantList(t, "100 stretches", l, e, 0)
	for _, x := range []struct {
		name string
		l    []api.Stretch
		e    api.Errno
	}{
		{"101 stretches", slices.Repeat([]api.Stretch{{From: 1, To: 2}}, 101), api.ErrLimit},
		{"101 that are none", make([]api.Stretch, 101), api.ErrLimit},
		{"100 that are none", make([]api.Stretch, 100), api.ErrArg},
		{"too far", []api.Stretch{{From: 0, To: 1}, {From: 0, To: 4}}, api.ErrArg},
		{"below 0", []api.Stretch{{From: -1, To: 1}}, api.ErrArg},
		{"no side", []api.Stretch{{From: 1, To: 1}}, api.ErrArg},
		{"backwards", []api.Stretch{{From: 2, To: 1}}, api.ErrArg},
		{"any numbers", []api.Stretch{{From: math.MinInt, To: math.MaxInt}}, api.ErrArg},
	} {
		l, e := edge.Bare(a, x.l)
		wantErr(t, x.name, e, x.e)
		if len(l) != 0 {
			t.Errorf("%s: %v beside an error", x.name, l)
		}
	}
	for _, x := range refused() {
		_, e := edge.Bare(x.o, make([]api.Stretch, 101))
		wantErr(t, "Bare, "+x.name, e, x.e)
	}
}
