package edge_test

import (
	"math"
	"slices"
	"testing"

	"conjoin/api"
	"conjoin/edge"
	"conjoin/oracle"
)

// TestExamples is the rows of the chapter's section 'Examples'.
func TestExamples(t *testing.T) {
	a, b := first(), second()
	for _, x := range []struct {
		p         api.Pairing
		meets     bool
		low, high int
	}{
		{pairing(0, 1, 1, 2), true, 11, 12}, {pairing(0, 2, 0, 2), true, 31, 34}, {pairing(1, 2, 0, 1), true, 20, 22}, {pairing(0, 1, 0, 1), false, 0, 0},
		{pairing(0, 3, 0, 3), false, 0, 0}, {pairing(2, 3, 2, 3), false, 0, 0},
	} {
		ok, e := edge.Meets(a, b, x.p)
		wantBool(t, name(x.p), ok, e, x.meets)
		low, high, e := edge.Shared(a, b, x.p)
		if low != x.low || high != x.high || (e == api.OK) != x.meets || !x.meets && e != api.ErrFlaw {
			t.Errorf("Shared %s: %d, %d, error %d", name(x.p), low, high, e)
		}
	}
	p := pairing(0, 1, 0, 1)
	f, is, e := edge.Clash(a, b, p)
	wantBool(t, "Clash", is && !f.Turns, e, true)
	ids, e := edge.Rests(a, b, p, f)
	wantList(t, "Rests", ids, e, 1, 6)
	slices.Sort(f.Circle)
	wantList(t, "Clash", f.Circle, api.OK, 0, 7)

	s, e := edge.Fit(a, b, p, false)
	wantList(t, "Fit", s.Bounds[6:8], e, bound(0, 1, 25, 6), bound(1, 0, -20, 6))
	wantList(t, "Fit: points", []int{s.Points, len(s.Bounds)}, e, 6, 12)
	p = pairing(0, 2, 0, 2)
	s, e = edge.Fit(a, b, p, true)
	wantList(t, "Fit", s.Bounds[4:5], e, bound(1, 0, -95, 9))
	wantList(t, "Fit: points", []int{s.Points, len(s.Bounds)}, e, 4, 8)

	c, e := edge.With(b, true, bound(0, 1, -101, 11))
	wantErr(t, "With", e, api.OK)
	ok, e := edge.Meets(a, c, p)
	wantBool(t, "Meets", ok, e, false)
	f, is, e = edge.Clash(a, c, p)
	wantBool(t, "Clash", is && f.Turns, e, true)
	slices.Sort(f.Circle)
	wantList(t, "Clash", f.Circle, api.OK, 0, 8)

	x := api.Placement{A: []int{0, 11, 31, 36}, B: []int{0, 20, 31, 40}, DirA: []int{0, 90, 190}, DirB: []int{0, -95, -115}}
	ok, e = edge.CheckPlace(a, b, pairing(0, 1, 1, 2), x)
	wantBool(t, "CheckPlace", ok, e, true)
}

// TestFit is C4: the points, and the bounds in their order, for all pairings, also of whole outlines and at both ends of them.
func TestFit(t *testing.T) {
	fit := func(a, b api.Outline, p api.Pairing) {
		for _, turns := range []bool{false, true} {
			s, e := edge.Fit(a, b, p, turns)
			want := joint(a, b, p, turns)
			if e != api.OK || s.Points != want.Points || !slices.Equal(s.Bounds, want.Bounds) {
				t.Fatalf("Fit(%v, %v, %s, %v): %v, error %d, want %v", a, b, name(p), turns, s, e, want)
			}
		}
	}
	eachPairing(60, fit)
	// All points, each of them with a bound.
	var o api.Outline
	o.Corners = 16
	for i := range 16 {
		o.Ways = append(o.Ways, bound(i, i+1, i+1, i), bound(i+1, i, -i, 0))
		if i < 15 {
			o.Turns = append(o.Turns, bound(i, i+1, i+1, i), bound(i+1, i, -i, 0))
		}
	}
	for _, p := range pairings(o, o) {
		fit(o, o, p)
	}
	three := api.Outline{Corners: 3, Ways: []api.Bound{bound(0, 3, 1, 1)}, Turns: []api.Bound{bound(0, 2, 1, 1)}}
	for _, p := range pairings(o, three) {
		fit(o, three, p)
	}
}

// TestMeeting is C5 to C7 and P3.2: there is a placement, or a clash, and it is as the chapter says.
func TestMeeting(t *testing.T) {
	var meeting, byWays, byTurns int
	eachPairing(400, func(a, b api.Outline, p api.Pairing) {
		want := meet(a, b, p)
		ok, e := edge.Meets(a, b, p)
		wantBool(t, "Meets "+name(p), ok, e, want)
		x, there, e := edge.Place(a, b, p)
		wantBool(t, "Place "+name(p), there, e, want)
		is, e := edge.CheckPlace(a, b, p, x)
		wantBool(t, "CheckPlace "+name(p), is, e, want)
		f, clash, e := edge.Clash(a, b, p)
		wantBool(t, "Clash "+name(p), clash, e, !want)
		bad, e := edge.CheckClash(a, b, p, f)
		wantBool(t, "CheckClash "+name(p), bad, e, !want)
		if want {
			meeting++
			// Numbers from 0 on are not promised, but this is how the chapter shows them.
			if !isPlacement(a, b, p, x) || x.A[0] != 0 || x.B[0] != 0 || x.DirA[0] != 0 || x.DirB[0] != 0 {
				t.Errorf("Place(%v, %v, %s): %v is none", a, b, name(p), x)
			}
			if f.Turns || len(f.Circle) != 0 {
				t.Errorf("Clash %s: %v, but none", name(p), f)
			}
			return
		}
		if len(x.A)+len(x.B)+len(x.DirA)+len(x.DirB) != 0 {
			t.Errorf("Place %s: %v, but none", name(p), x)
		}
		s := joint(a, b, p, false)
		byWays++
		if fewest(s) == 0 {
			s = joint(a, b, p, true)
			byWays--
			byTurns++
		}
		if f.Turns != (fewest(joint(a, b, p, false)) == 0) || len(f.Circle) != fewest(s) || !isCircle(s, f.Circle) {
			t.Errorf("Clash(%v, %v, %s): %v", a, b, name(p), f)
		}
		rests(t, a, b, p, f, s)
	})
	if min(meeting, byWays, byTurns) < 500 {
		t.Errorf("only %d, %d, %d", meeting, byWays, byTurns)
	}
}

// rests is C6: the Ids of the bounds of a clash.
func rests(t *testing.T, a, b api.Outline, p api.Pairing, f api.Flaw, s api.System) {
	t.Helper()
	var want []int
	for _, i := range f.Circle {
		if by := s.Bounds[i].By; by != 0 {
			want = append(want, by)
		}
	}
	slices.Sort(want)
	ids, e := edge.Rests(a, b, p, f)
	wantList(t, "Rests "+name(p), ids, e, slices.Compact(want)...)
	f.Circle = f.Circle[1:]
	ids, e = edge.Rests(a, b, p, f)
	if e != api.ErrArg || len(ids) != 0 {
		t.Errorf("Rests %s of no clash: %v, error %d", name(p), ids, e)
	}
}

// TestCheckClash is C6: lists of both joint systems, each for the other one too.
func TestCheckClash(t *testing.T) {
	accepted := 0
	eachPairing(60, func(a, b api.Outline, p api.Pairing) {
		for _, turns := range []bool{false, true} {
			s := joint(a, b, p, turns)
			n := len(s.Bounds)
			lists := [][]int{nil, {0}, {n}, {n, 0}, {0, n}, {-1, 0}, {math.MinInt, math.MaxInt}}
			for i := range n {
				for j := range n {
					lists = append(lists, []int{i, j}, []int{i, j, (i + j) % n})
				}
			}
			for _, l := range lists {
				want := len(l) > 1 && isCircle(s, l)
				f := api.Flaw{Turns: turns, Circle: l}
				if got, e := edge.CheckClash(a, b, p, f); got != want || e != api.OK {
					t.Fatalf("CheckClash %s %v: %v, error %d", name(p), f, got, e)
				}
				_, e := edge.Rests(a, b, p, f)
				if want {
					accepted++
					wantErr(t, "Rests", e, api.OK)
				} else {
					wantErr(t, "Rests", e, api.ErrArg)
				}
			}
		}
	})
	if accepted < 500 {
		t.Errorf("only %d clashes", accepted)
	}
}

// lists are those of a placement, in their order.
func lists(x *api.Placement) [4]*[]int { return [4]*[]int{&x.A, &x.B, &x.DirA, &x.DirB} }

// copied is a copy of a placement.
func copied(x api.Placement) api.Placement {
	return api.Placement{A: slices.Clone(x.A), B: slices.Clone(x.B), DirA: slices.Clone(x.DirA), DirB: slices.Clone(x.DirB)}
}

// TestCheckPlace is C5: placements that are changed a little, some of which are still ones.
func TestCheckPlace(t *testing.T) {
	count := map[bool]int{}
	eachPairing(150, func(a, b api.Outline, p api.Pairing) {
		x, ok, _ := edge.Place(a, b, p)
		if !ok {
			return
		}
		for i, l := range lists(&x) {
			for j := range *l {
				for _, by := range []int{-30, -1, 1, 30} {
					y := copied(x)
					(*lists(&y)[i])[j] += by
					want := isPlacement(a, b, p, y)
					count[want]++
					is, e := edge.CheckPlace(a, b, p, y)
					wantBool(t, "CheckPlace, one number", is, e, want)
				}
			}
			for _, by := range []int{-7, 100000000 - slices.Max(*l), -100000000 - slices.Min(*l)} {
				y := copied(x)
				for j := range *l {
					(*lists(&y)[i])[j] += by
				}
				is, e := edge.CheckPlace(a, b, p, y)
				wantBool(t, "CheckPlace, all numbers", is, e, true)
				for j := range *l {
					(*lists(&y)[i])[j] += by / 7
				}
				is, e = edge.CheckPlace(a, b, p, y)
				wantBool(t, "CheckPlace, all numbers, too far", is, e, by == -7)
			}
			for _, other := range [][]int{nil, (*l)[1:], append(slices.Clone(*l), 0), slices.Repeat([]int{math.MinInt}, len(*l)), slices.Repeat([]int{math.MaxInt}, len(*l))} {
				y := copied(x)
				*lists(&y)[i] = other
				is, e := edge.CheckPlace(a, b, p, y)
				wantBool(t, "CheckPlace, no numbers", is, e, false)
			}
		}
	})
	if min(count[true], count[false]) < 500 {
		t.Errorf("only %v", count)
	}
}

// TestFarPlace is C5: one more than MaxNear is too far, on both sides.
func TestFarPlace(t *testing.T) {
	o := api.Outline{Corners: 3}
	for _, n := range []int{100000000, -100000000} {
		for i := range 4 {
			x := api.Placement{A: make([]int, 4), B: make([]int, 4), DirA: make([]int, 3), DirB: make([]int, 3)}
			for j := range *lists(&x)[i] {
				(*lists(&x)[i])[j] = n
			}
			is, e := edge.CheckPlace(o, o, pairing(0, 3, 0, 3), x)
			wantBool(t, "CheckPlace, far", is, e, true)
			for j := range *lists(&x)[i] {
				(*lists(&x)[i])[j] += n / 100000000
			}
			is, e = edge.CheckPlace(o, o, pairing(0, 3, 0, 3), x)
			wantBool(t, "CheckPlace, too far", is, e, false)
		}
	}
}

// TestGreatPlace is C5 and C7 where numbers are as great as they can be.
func TestGreatPlace(t *testing.T) {
	for _, most := range []int{1000000, -1000000} {
		o := api.Outline{Corners: 16}
		for i := range 16 {
			o.Ways = append(o.Ways, bound(i, i+1, most, 0), bound(i+1, i, -most, 0))
			if i < 15 {
				o.Turns = append(o.Turns, bound(i, i+1, most, 0), bound(i+1, i, -most, 0))
			}
		}
		// One side alone is shared, so that the numbers of both outlines spread as far as they can.
		for _, p := range []api.Pairing{pairing(15, 16, 15, 16), pairing(0, 1, 15, 16), pairing(15, 16, 0, 1), pairing(0, 1, 0, 1)} {
			x, ok, e := edge.Place(o, o, p)
			wantBool(t, "Place "+name(p), ok && isPlacement(o, o, p, x), e, true)
			low, high, e := edge.Shared(o, o, p)
			wantList(t, "Shared "+name(p), []int{low, high}, e, most, most)
		}
		low, high, e := edge.Shared(api.Outline{Corners: 16, Ways: o.Ways}, api.Outline{Corners: 16}, pairing(0, 16, 0, 16))
		wantList(t, "Shared, all", []int{low, high}, e, 16*most, 16*most)
	}
}

// endsOf are the ends of what a pairing that meets shares.
func endsOf(a, b api.Outline, p api.Pairing) (low, high int) {
	w, _ := tied(a, b, p, false)
	low, high = -api.MaxFar, api.MaxFar
	if n := w[p.A.To][p.A.From]; n < oracle.Far {
		low = -n
	}
	if n := w[p.A.From][p.A.To]; n < oracle.Far {
		high = n
	}
	return low, high
}

// TestShared is C7, P3.3 and P3.6.
func TestShared(t *testing.T) {
	open := map[[2]bool]int{}
	eachPairing(300, func(a, b api.Outline, p api.Pairing) {
		low, high, e := edge.Shared(a, b, p)
		round := api.Pairing{A: p.B, B: p.A}
		meets, f := edge.Meets(b, a, round)
		wantBool(t, "Meets, turned round", meets, f, e == api.OK)
		roundLow, roundHigh, roundE := edge.Shared(b, a, round)
		if roundLow != low || roundHigh != high || roundE != e {
			t.Errorf("Shared %s: %d, %d, error %d, but turned round %d, %d, error %d", name(p), low, high, e, roundLow, roundHigh, roundE)
		}
		if !meet(a, b, p) {
			if e != api.ErrFlaw || low != 0 || high != 0 {
				t.Errorf("Shared %s: %d, %d, error %d", name(p), low, high, e)
			}
			return
		}
		wantLow, wantHigh := endsOf(a, b, p)
		wantList(t, "Shared "+name(p), []int{low, high}, e, wantLow, wantHigh)
		open[[2]bool{low == -api.MaxFar, high == api.MaxFar}]++
		x, _, _ := edge.Place(a, b, p)
		if way := x.A[p.A.To] - x.A[p.A.From]; way < low || way > high {
			t.Errorf("Place %s: a way of %d, but Shared %d to %d", name(p), way, low, high)
		}
	})
	for _, low := range []bool{false, true} {
		for _, high := range []bool{false, true} {
			if open[[2]bool{low, high}] < 5 {
				t.Errorf("only %v", open)
			}
		}
	}
}

// TestMoreBounds is P3.5.
func TestMoreBounds(t *testing.T) {
	d := dice(5)
	narrower, lost := 0, 0
	eachTwo(120, func(a, b api.Outline) {
		c, g := a, b
		turns := d.below(2) == 0
		if d.below(2) == 0 {
			c, _ = edge.With(a, turns, d.looseBound(a, turns))
		} else {
			g, _ = edge.With(b, turns, d.looseBound(b, turns))
		}
		for _, p := range pairings(a, b) {
			low, high, e := edge.Shared(a, b, p)
			newLow, newHigh, newE := edge.Shared(c, g, p)
			switch {
			case e == api.ErrFlaw && newE != api.ErrFlaw:
				t.Errorf("%s meets with a bound more", name(p))
			case e == api.OK && newE == api.ErrFlaw:
				lost++
			case e == api.OK:
				if newLow < low || newHigh > high {
					t.Errorf("%s shares %d to %d, with a bound more %d to %d", name(p), low, high, newLow, newHigh)
				}
				if newLow > low || newHigh < high {
					narrower++
				}
			}
		}
	})
	if min(narrower, lost) < 20 {
		t.Errorf("only %d narrower, %d lost", narrower, lost)
	}
}

// askers are the functions that are asked about a pairing, with the error that they return.
func askers() map[string]func(a, b api.Outline, p api.Pairing) api.Errno {
	return map[string]func(a, b api.Outline, p api.Pairing) api.Errno{
		"Meets": func(a, b api.Outline, p api.Pairing) api.Errno { _, e := edge.Meets(a, b, p); return e },
		"Place": func(a, b api.Outline, p api.Pairing) api.Errno { _, _, e := edge.Place(a, b, p); return e },
		"CheckPlace": func(a, b api.Outline, p api.Pairing) api.Errno {
			_, e := edge.CheckPlace(a, b, p, api.Placement{})
			return e
		},
		"Clash": func(a, b api.Outline, p api.Pairing) api.Errno { _, _, e := edge.Clash(a, b, p); return e },
		"CheckClash": func(a, b api.Outline, p api.Pairing) api.Errno {
			_, e := edge.CheckClash(a, b, p, api.Flaw{})
			return e
		},
		"Rests": func(a, b api.Outline, p api.Pairing) api.Errno {
			_, e := edge.Rests(a, b, p, api.Flaw{})
			if e == api.ErrArg && edge.CheckPairing(a, b, p) == api.OK {
				return api.OK // The pairing is right: that the flaw is no clash is what is wrong.
			}
			return e
		},
		"Shared":       func(a, b api.Outline, p api.Pairing) api.Errno { _, _, e := edge.Shared(a, b, p); return e },
		"Fit, ways":    func(a, b api.Outline, p api.Pairing) api.Errno { _, e := edge.Fit(a, b, p, false); return e },
		"Fit, turns":   func(a, b api.Outline, p api.Pairing) api.Errno { _, e := edge.Fit(a, b, p, true); return e },
		"CheckPairing": edge.CheckPairing,
	}
}

// TestOrder is the order of the errors: those of a, of b, of the pairing, and only then that of joint systems that are too large.
func TestOrder(t *testing.T) {
	large, good := api.Outline{Corners: 3, Ways: many(300), Turns: many(300)}, first()
	for what, ask := range askers() {
		for _, x := range refused() {
			wantErr(t, what+", a: "+x.name, ask(x.o, api.Outline{}, pairing(0, 2, 0, 1)), x.e)
			wantErr(t, what+", a: "+x.name, ask(x.o, large, api.Pairing{}), x.e)
			wantErr(t, what+", b: "+x.name, ask(large, x.o, api.Pairing{}), x.e)
			wantErr(t, what+", b: "+x.name, ask(good, x.o, pairing(0, 2, 0, 1)), x.e)
		}
		// One of both has to be wrong in its own way, so that it shows which of them decides.
		wantErr(t, what+", both", ask(api.Outline{Corners: 3, Ways: many(401)}, api.Outline{}, pairing(0, 1, 0, 1)), api.ErrLimit)
		wantErr(t, what+", both", ask(api.Outline{}, api.Outline{Corners: 3, Ways: many(401)}, pairing(0, 1, 0, 1)), api.ErrArg)
		wantErr(t, what+", no stretch of a", ask(large, large, pairing(0, 4, 0, 3)), api.ErrArg)
		wantErr(t, what+", no stretch of b", ask(large, large, pairing(0, 3, 0, 4)), api.ErrArg)
		wantErr(t, what+", other sides", ask(large, large, pairing(0, 3, 0, 2)), api.ErrBare)
	}
}

// TestLimits is the ErrLimit of joint systems: 400 bounds are allowed, and 401 are too many, in each of both.
func TestLimits(t *testing.T) {
	p := pairing(0, 2, 1, 3)
	o := func(ways, turns int) api.Outline {
		return api.Outline{Corners: 3, Ways: many(ways), Turns: many(turns)}
	}
	for _, x := range []struct{ aWays, aTurns, bWays, bTurns int }{
		{200, 200, 200, 200}, {200, 200, 201, 200}, {201, 200, 200, 200}, {200, 200, 200, 201}, {200, 201, 200, 200}, {400, 400, 0, 0}, {0, 0, 400, 400},
		{400, 0, 1, 0}, {0, 400, 0, 1}, {400, 0, 0, 400}, {400, 400, 400, 400}, {1, 0, 400, 0}, {0, 1, 0, 400},
	} {
		a, b := o(x.aWays, x.aTurns), o(x.bWays, x.bTurns)
		ways, turns := x.aWays+x.bWays > 400, x.aTurns+x.bTurns > 400
		for what, ask := range askers() {
			tooMany := ways || turns
			switch what {
			case "Fit, ways":
				tooMany = ways
			case "Fit, turns":
				tooMany = turns
			case "CheckPairing":
				tooMany = false
			}
			want := api.OK
			if tooMany {
				want = api.ErrLimit
			}
			wantErr(t, what, ask(a, b, p), want)
		}
		for what, ask := range searches() {
			want := api.OK
			if ways || turns {
				want = api.ErrLimit
			}
			for _, n := range []int{-1, 0, 1, 3, 4} {
				wantErr(t, what, ask(a, b, n), want)
			}
		}
	}
}
