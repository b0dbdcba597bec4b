package gauge_test

import (
	"math"
	"slices"
	"testing"

	"conjoin/api"
	"conjoin/gauge"
)

func TestCheckSystem(t *testing.T) {
	many := func(n int) []api.Bound { return slices.Repeat([]api.Bound{bound(0, 1, 0, 0)}, n) }
	for _, x := range []struct {
		name string
		s    api.System
		want api.Errno
	}{
		{"example", three(), api.OK},
		{"contradicting", bad(), api.OK},
		{"one point", system(1), api.OK},
		{"no bounds, not nil", api.System{Points: 1, Bounds: []api.Bound{}}, api.OK},
		{"most points", system(api.MaxPoints), api.OK},
		{"points passed", system(api.MaxPoints + 1), api.ErrLimit},
		{"points far passed", system(math.MaxInt), api.ErrLimit},
		{"no point", system(0), api.ErrArg},
		{"points below none", system(math.MinInt), api.ErrArg},
		{"no point, and a bound", system(0, bound(0, 1, 0, 0)), api.ErrArg},
		{"most bounds", system(2, many(api.MaxBounds)...), api.OK},
		{"bounds passed", system(2, many(api.MaxBounds+1)...), api.ErrLimit},
		{"limit before argument", system(0, many(api.MaxBounds+1)...), api.ErrLimit},
		{"From below", system(2, bound(-1, 1, 0, 0)), api.ErrArg},
		{"From above", system(2, bound(2, 1, 0, 0)), api.ErrArg},
		{"To below", system(2, bound(0, -1, 0, 0)), api.ErrArg},
		{"To above", system(2, bound(0, 2, 0, 0)), api.ErrArg},
		{"last point", system(2, bound(0, 1, 0, 0), bound(1, 0, 0, 0)), api.OK},
		{"one point twice", system(2, bound(1, 1, 0, 0)), api.ErrArg},
		{"greatest Most", system(2, bound(0, 1, 1000000, 0)), api.OK},
		{"Most above", system(2, bound(0, 1, 1000001, 0)), api.ErrArg},
		{"least Most", system(2, bound(0, 1, -1000000, 0)), api.OK},
		{"Most below", system(2, bound(0, 1, -1000001, 0)), api.ErrArg},
		{"greatest By", system(2, bound(0, 1, 0, 1000000)), api.OK},
		{"By above", system(2, bound(0, 1, 0, 1000001)), api.ErrArg},
		{"By below", system(2, bound(0, 1, 0, -1)), api.ErrArg},
		{"second bound", system(2, bound(0, 1, 0, 0), bound(0, 1, 0, -1)), api.ErrArg},
		{"same points, same By", system(2, bound(0, 1, 3, 4), bound(0, 1, 3, 4)), api.OK},
	} {
		wantErr(t, x.name, gauge.CheckSystem(x.s), x.want)
	}
}

func TestKeepsAndBreaks(t *testing.T) {
	s := three()
	for _, x := range []struct {
		list   []int
		first  int
		broken bool
	}{
		{[]int{0, 3, 7}, 0, false},
		{[]int{0, 1, 5}, 1, true},
		{[]int{0, 5, 9}, 0, false},
		{[]int{0, 6, 9}, 0, true},
		{[]int{0, 3, 8}, 2, true},
		{[]int{0, 3, 6}, 3, true},
		{[]int{0, 1, 4}, 1, true},
		{[]int{999999990, 999999995, 999999999}, 0, false},
		{[]int{1000000000, -1000000000, 0}, 1, true},
		{[]int{-1000000000, 1000000000, 0}, 0, true},
	} {
		ok, e := gauge.Keeps(s, x.list)
		if ok == x.broken || e != api.OK {
			t.Errorf("Keeps(%v): %v, error %d", x.list, ok, e)
		}
		i, is, e := gauge.Breaks(s, x.list)
		wantNumber(t, "Breaks", i, is, e, x.first, x.broken)
	}
	if ok, e := gauge.Keeps(system(1), []int{4}); !ok || e != api.OK {
		t.Errorf("Keeps of a system without bounds: %v, error %d", ok, e)
	}
	for _, list := range [][]int{nil, {}, {0, 3}, {0, 3, 7, 0}, {0, 3, 1000000001}, {-1000000001, 3, 7}, {math.MinInt, math.MaxInt, 0}} {
		ok, e := gauge.Keeps(s, list)
		i, is, f := gauge.Breaks(s, list)
		if ok || is || i != 0 || e != api.ErrArg || f != api.ErrArg {
			t.Errorf("Keeps, Breaks(%v): %v, %d, %v, errors %d, %d", list, ok, i, is, e, f)
		}
	}
}

func TestKeepsByOracle(t *testing.T) {
	d := dice(2)
	eachSystem(func(s api.System) {
		x := make([]int, s.Points)
		for p := range x {
			x[p] = d.below(12)
		}
		ok, _ := gauge.Keeps(s, x)
		_, broken, _ := gauge.Breaks(s, x)
		if ok != keeps(s, x) || broken == ok {
			t.Fatalf("%v, %v: Keeps %v, Breaks %v", s, x, ok, broken)
		}
	})
}

func TestWith(t *testing.T) {
	s, e := gauge.With(three(), bound(1, 0, -6, 5))
	wantSystem(t, "With", s, e, bad())
	s, e = gauge.With(system(2), bound(0, 1, 1000000, 1000000))
	wantSystem(t, "With", s, e, system(2, bound(0, 1, 1000000, 1000000)))
	for _, x := range []api.Bound{bound(0, 3, 0, 0), bound(-1, 0, 0, 0), bound(1, 1, 0, 0), bound(0, 1, 1000001, 0), bound(0, 1, 0, -1)} {
		s, e = gauge.With(three(), x)
		noSystem(t, "With", s, e, api.ErrArg)
	}
	s, e = gauge.With(full(), bound(0, 1, 0, 0))
	noSystem(t, "With, of a full system", s, e, api.ErrLimit)
	s, e = gauge.With(full(), bound(0, 0, 0, 0))
	noSystem(t, "With, of a full system and no bound", s, e, api.ErrLimit)
}

func TestWithoutAndOnly(t *testing.T) {
	s := three()
	s.Bounds = append(s.Bounds, bound(0, 2, 99, 0), bound(0, 1, 50, 7))
	b := s.Bounds
	for _, x := range []struct {
		by   int
		want []api.Bound
	}{
		{9, []api.Bound{b[0], b[1], b[4], b[5]}},
		{7, []api.Bound{b[1], b[2], b[3], b[4]}},
		{0, []api.Bound{b[0], b[1], b[2], b[3], b[5]}},
		{6, b},
		{1000000, b},
	} {
		got, e := gauge.Without(s, x.by)
		wantSystem(t, "Without", got, e, system(3, x.want...))
	}
	for _, by := range []int{-1, 1000001, math.MinInt, math.MaxInt} {
		got, e := gauge.Without(s, by)
		noSystem(t, "Without no By", got, e, api.ErrArg)
	}
	for _, x := range []struct {
		ids  []int
		want []api.Bound
	}{
		{nil, []api.Bound{b[4]}},
		{[]int{}, []api.Bound{b[4]}},
		{[]int{0}, []api.Bound{b[4]}},
		{[]int{9, 7}, []api.Bound{b[0], b[2], b[3], b[4], b[5]}},
		{[]int{8, 8, -1, math.MaxInt, math.MinInt}, []api.Bound{b[1], b[4]}},
		{[]int{9, 8, 7}, b},
	} {
		got, e := gauge.Only(s, x.ids)
		wantSystem(t, "Only", got, e, system(3, x.want...))
	}
}

func TestIds(t *testing.T) {
	s := three()
	s.Bounds = append(s.Bounds, bound(0, 2, 99, 0))
	for _, x := range []struct{ list, want []int }{
		{[]int{2, 0, 3}, []int{7, 9}},
		{[]int{1, 0, 1, 0}, []int{7, 8}},
		{[]int{4}, nil},
		{nil, nil},
		{[]int{}, nil},
		{[]int{4, 3, 2, 1, 0}, []int{7, 8, 9}},
	} {
		got, e := gauge.Ids(s, x.list)
		wantErr(t, "Ids", e, api.OK)
		wantList(t, "Ids", got, x.want...)
	}
	for _, list := range [][]int{{5}, {-1}, {0, math.MaxInt}, {math.MinInt, 0}} {
		got, e := gauge.Ids(s, list)
		wantErr(t, "Ids", e, api.ErrArg)
		wantList(t, "Ids", got)
	}
}

func TestBeside(t *testing.T) {
	got, e := gauge.Beside(three(), system(2, bound(1, 0, -7, 7)))
	want := three()
	want.Points = 5
	want.Bounds = append(want.Bounds, bound(4, 3, -7, 7))
	wantSystem(t, "Beside", got, e, want)
	six, e := gauge.Beside(three(), three())
	if e != api.OK || six.Points != 6 {
		t.Errorf("Beside: %d points, error %d", six.Points, e)
	}
	n, ok, e := gauge.Greatest(six, 3, 5)
	wantNumber(t, "Greatest beside", n, ok, e, 9, true)
	n, ok, e = gauge.Greatest(six, 0, 5)
	wantNumber(t, "Greatest across", n, ok, e, 0, false)
	got, e = gauge.Beside(system(1), system(1))
	wantSystem(t, "Beside", got, e, system(2))
	got, e = gauge.Beside(system(59), system(1))
	wantSystem(t, "Beside", got, e, system(60))
	got, e = gauge.Beside(system(59), system(2))
	noSystem(t, "Beside, points passed", got, e, api.ErrLimit)
	half := system(2, slices.Repeat([]api.Bound{bound(0, 1, 0, 0)}, 200)...)
	if got, e = gauge.Beside(half, half); e != api.OK || len(got.Bounds) != 400 {
		t.Errorf("Beside: %d bounds, error %d", len(got.Bounds), e)
	}
	more := system(2, slices.Repeat([]api.Bound{bound(0, 1, 0, 0)}, 201)...)
	got, e = gauge.Beside(half, more)
	noSystem(t, "Beside, bounds passed", got, e, api.ErrLimit)
	got, e = gauge.Beside(system(0), system(61))
	noSystem(t, "Beside, the first one wrong", got, e, api.ErrArg)
	got, e = gauge.Beside(system(61), system(0))
	noSystem(t, "Beside, the first one too great", got, e, api.ErrLimit)
	got, e = gauge.Beside(three(), system(0))
	noSystem(t, "Beside, the second one wrong", got, e, api.ErrArg)
}

func TestTie(t *testing.T) {
	want := three()
	want.Bounds = append(want.Bounds, bound(0, 2, 8, 0), bound(2, 0, -8, 0))
	got, e := gauge.Tie(three(), 0, 2, 8)
	wantSystem(t, "Tie", got, e, want)
	for _, n := range []int{-1000000, 1000000} {
		got, e = gauge.Tie(system(2), 1, 0, n)
		wantSystem(t, "Tie", got, e, system(2, bound(1, 0, n, 0), bound(0, 1, -n, 0)))
	}
	for _, x := range [][3]int{{0, 3, 0}, {3, 0, 0}, {-1, 0, 0}, {0, -1, 0}, {1, 1, 0}, {0, 1, 1000001}, {0, 1, -1000001}, {0, 1, math.MinInt}} {
		got, e = gauge.Tie(three(), x[0], x[1], x[2])
		noSystem(t, "Tie", got, e, api.ErrArg)
	}
	s := full()
	s.Bounds = s.Bounds[:398]
	if got, e = gauge.Tie(s, 0, 1, 5); e != api.OK || len(got.Bounds) != 400 {
		t.Errorf("Tie: %d bounds, error %d", len(got.Bounds), e)
	}
	s = full()
	s.Bounds = s.Bounds[:399]
	got, e = gauge.Tie(s, 0, 1, 5)
	noSystem(t, "Tie, bounds passed", got, e, api.ErrLimit)
	got, e = gauge.Tie(s, 1, 1, 5)
	noSystem(t, "Tie, one point in a full system", got, e, api.ErrArg)
	got, e = gauge.Tie(system(61), 1, 1, 5)
	noSystem(t, "Tie, one point in a system too great", got, e, api.ErrLimit)
}

// TestBesideAndTied is P1.7.
func TestBesideAndTied(t *testing.T) {
	d := dice(3)
	eachSystem(func(s api.System) {
		u := d.anySystem()
		both, e := gauge.Beside(s, u)
		wantErr(t, "Beside", e, api.OK)
		left, ok := table(s)
		right, also := table(u)
		if _, is := solve(t, both); is != (ok && also) {
			t.Fatalf("%v beside %v: solution %v", s, u, is)
		}
		if !ok || !also {
			return
		}
		for a := range both.Points {
			for b := range both.Points {
				want, is := 0, false
				if a < s.Points && b < s.Points {
					want, is = endIn(left, a, b, true)
				} else if a >= s.Points && b >= s.Points {
					want, is = endIn(right, a-s.Points, b-s.Points, true)
				}
				n, found, e := gauge.Greatest(both, a, b)
				wantNumber(t, "Greatest beside", n, found, e, want, is)
			}
		}
		if s.Points < 2 {
			return
		}
		n := d.below(12) - 4
		tied, e := gauge.Tie(s, 0, 1, n)
		wantErr(t, "Tie", e, api.OK)
		if _, is := solve(t, tied); is {
			m, fixed, e := gauge.Fixed(tied, 0, 1)
			wantNumber(t, "Fixed, tied", m, fixed, e, n, true)
		}
	})
}
