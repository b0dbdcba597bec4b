package gauge_test

import (
	"math"
	"slices"
	"testing"

	"conjoin/api"
	"conjoin/gauge"
)

func TestGreatestAndLeast(t *testing.T) {
	s := three()
	for _, x := range []struct{ a, b, low, high int }{
		{0, 1, 2, 5}, {0, 2, 6, 9}, {2, 0, -9, -6}, {1, 2, 4, 4}, {1, 1, 0, 0}, {0, 0, 0, 0},
	} {
		n, ok, e := gauge.Greatest(s, x.a, x.b)
		wantNumber(t, "Greatest", n, ok, e, x.high, true)
		n, ok, e = gauge.Least(s, x.a, x.b)
		wantNumber(t, "Least", n, ok, e, x.low, true)
	}
	sums := system(3, bound(0, 1, 5, 1), bound(1, 0, -3, 1), bound(1, 2, 4, 2), bound(2, 1, -2, 2))
	n, ok, e := gauge.Greatest(sums, 0, 2)
	wantNumber(t, "Greatest of two ranges", n, ok, e, 9, true)
	n, ok, e = gauge.Least(sums, 0, 2)
	wantNumber(t, "Least of two ranges", n, ok, e, 5, true)
	n, ok, e = gauge.Greatest(system(2), 0, 1)
	wantNumber(t, "Greatest without bounds", n, ok, e, 0, false)
	n, ok, e = gauge.Least(system(2), 0, 1)
	wantNumber(t, "Least without bounds", n, ok, e, 0, false)
	one := system(2, bound(0, 1, -3, 1))
	n, ok, e = gauge.Greatest(one, 0, 1)
	wantNumber(t, "Greatest of one bound", n, ok, e, -3, true)
	n, ok, e = gauge.Least(one, 0, 1)
	wantNumber(t, "Least of one bound", n, ok, e, 0, false)
	n, ok, e = gauge.Least(one, 1, 0)
	wantNumber(t, "Least of one bound", n, ok, e, 3, true)
	n, ok, e = gauge.Greatest(system(1), 0, 0)
	wantNumber(t, "Greatest of one point", n, ok, e, 0, true)
}

// TestCircleErrors has the errors of the functions that need a solution, in their order.
func TestCircleErrors(t *testing.T) {
	for _, x := range []struct {
		name string
		call func(s api.System, p int) api.Errno
	}{
		{"Greatest", func(s api.System, p int) api.Errno {
			n, ok, e := gauge.Greatest(s, 0, p)
			_, _, f := gauge.Greatest(s, p, 0)
			return same(t, e, f, n == 0 && !ok)
		}},
		{"Least", func(s api.System, p int) api.Errno {
			n, ok, e := gauge.Least(s, 0, p)
			_, _, f := gauge.Least(s, p, 0)
			return same(t, e, f, n == 0 && !ok)
		}},
		{"Path", func(s api.System, p int) api.Errno {
			l, ok, e := gauge.Path(s, 0, p)
			_, _, f := gauge.Path(s, p, 0)
			return same(t, e, f, len(l) == 0 && !ok)
		}},
		{"Attain", func(s api.System, p int) api.Errno {
			l, ok, e := gauge.Attain(s, 0, p, 1)
			_, _, f := gauge.Attain(s, p, 0, 1)
			return same(t, e, f, len(l) == 0 && !ok)
		}},
		{"Fixed", func(s api.System, p int) api.Errno {
			n, ok, e := gauge.Fixed(s, 0, p)
			_, _, f := gauge.Fixed(s, p, 0)
			return same(t, e, f, n == 0 && !ok)
		}},
		{"Rests", func(s api.System, p int) api.Errno {
			l, e := gauge.Rests(s, 0, p, true)
			_, f := gauge.Rests(s, p, 0, false)
			return same(t, e, f, len(l) == 0)
		}},
		{"Changed", func(s api.System, p int) api.Errno {
			l, e := gauge.Changed(s, bound(0, 1, 1, 1), p)
			return same(t, e, e, len(l) == 0)
		}},
	} {
		for _, p := range []int{-1, 3, math.MinInt, math.MaxInt} {
			wantErr(t, x.name+" of no point", x.call(three(), p), api.ErrArg)
			wantErr(t, x.name+" of no point, without a solution", x.call(bad(), p), api.ErrArg)
			wantErr(t, x.name+" of no system", x.call(system(0), p), api.ErrArg)
			wantErr(t, x.name+" of a system too great", x.call(system(61), p), api.ErrLimit)
		}
		for p := range 3 {
			wantErr(t, x.name+" without a solution", x.call(bad(), p), api.ErrCircle)
		}
	}
	l, e := gauge.Rigid(bad())
	wantErr(t, "Rigid", same(t, e, e, len(l) == 0), api.ErrCircle)
}

// same wants one error of two calls, and nothing beside it.
func same(t *testing.T, e, f api.Errno, nothing bool) api.Errno {
	t.Helper()
	if e != f || !nothing {
		t.Errorf("errors %d, %d, nothing beside them: %v", e, f, nothing)
	}
	return e
}

func TestPath(t *testing.T) {
	p, ok, e := gauge.Path(three(), 0, 2)
	if !ok || e != api.OK {
		t.Errorf("Path: %v, error %d", ok, e)
	}
	wantList(t, "Path", p, 0, 2)
	p, ok, e = gauge.Path(three(), 2, 2)
	if !ok || e != api.OK {
		t.Errorf("Path to itself: %v, error %d", ok, e)
	}
	wantList(t, "Path to itself", p)
	p, ok, e = gauge.Path(system(2, bound(1, 0, 3, 3)), 0, 1)
	if ok || e != api.OK {
		t.Errorf("Path that there is not: %v, error %d", ok, e)
	}
	wantList(t, "Path that there is not", p)
}

func TestCheckPath(t *testing.T) {
	s := three()
	s.Bounds = append(s.Bounds, bound(2, 0, 1, 0), bound(0, 2, 20, 0))
	for _, x := range []struct {
		a, b, most int
		list       []int
		want       bool
	}{
		{2, 0, -6, []int{3, 1}, true},
		{2, 0, -7, []int{3, 1}, false},
		{2, 0, math.MaxInt, []int{3, 1}, true},
		{2, 0, math.MinInt, []int{3, 1}, false},
		{2, 0, 1, []int{4}, true},
		{0, 2, 20, []int{5}, true},
		{0, 2, 9, []int{0, 2}, true},
		{0, 2, 8, []int{0, 2}, false},
		{0, 2, 99, []int{2, 0}, false},
		{0, 2, 99, []int{0}, false},
		{0, 2, 99, []int{2}, false},
		{0, 1, 99, []int{5, 3}, true},
		{0, 2, 99, []int{0, 2, 3, 2}, false},
		{0, 1, 99, []int{0, 2, 3}, false},
		{0, 1, 99, []int{0, 1, 0}, false},
		{1, 2, 99, []int{1, 0, 2}, false},
		{0, 2, 99, []int{0, 6}, false},
		{0, 2, 99, []int{-1, 2}, false},
		{0, 2, 99, []int{math.MinInt, math.MaxInt}, false},
		{0, 1, 100, nil, false},
		{1, 1, 0, nil, true},
		{1, 1, 0, []int{}, true},
		{1, 1, -1, nil, false},
		{1, 1, 100, []int{1, 0}, false},
		{0, 1, 99, slices.Repeat([]int{0, 1}, 5000), false},
	} {
		if ok, e := gauge.CheckPath(s, x.a, x.b, x.most, x.list); ok != x.want || e != api.OK {
			t.Errorf("CheckPath(%v): %v, error %d", x, ok, e)
		}
	}
	for _, x := range [][2]int{{-1, 0}, {0, 3}, {3, 3}, {math.MinInt, math.MaxInt}} {
		if ok, e := gauge.CheckPath(s, x[0], x[1], 0, nil); ok || e != api.ErrArg {
			t.Errorf("CheckPath(%v): %v, error %d", x, ok, e)
		}
	}
	if ok, e := gauge.CheckPath(bad(), 0, 1, 5, []int{0}); !ok || e != api.OK {
		t.Errorf("CheckPath without a solution: %v, error %d", ok, e)
	}
}

func TestAttain(t *testing.T) {
	for _, x := range []struct {
		a, b, n int
		want    []int
	}{
		{0, 1, 3, []int{-7, -4, 0}},
		{0, 1, 6, nil},
		{0, 1, 5, []int{-9, -4, 0}},
		{0, 1, 2, []int{-6, -4, 0}},
		{0, 1, 1, nil},
		{1, 2, 4, []int{-6, -4, 0}},
		{1, 1, 0, []int{-6, -4, 0}},
		{1, 1, 1, nil},
		{1, 1, -100000000, nil},
	} {
		got, ok, e := gauge.Attain(three(), x.a, x.b, x.n)
		if ok != (x.want != nil) || e != api.OK {
			t.Errorf("Attain(%v): %v, error %d", x, ok, e)
		}
		wantList(t, "Attain", got, x.want...)
	}
	for _, n := range []int{100000000, -100000000} {
		got, ok, e := gauge.Attain(system(2), 0, 1, n)
		if !ok || e != api.OK {
			t.Errorf("Attain of %d: %v, error %d", n, ok, e)
		}
		wantList(t, "Attain", got, min(-n, 0), min(n, 0))
	}
	for _, n := range []int{100000001, -100000001, math.MaxInt, math.MinInt} {
		for _, s := range []api.System{three(), bad()} {
			got, ok, e := gauge.Attain(s, 0, 1, n)
			wantErr(t, "Attain", same(t, e, e, len(got) == 0 && !ok), api.ErrArg)
			got, ok, e = gauge.Attain(s, 1, 1, n)
			wantErr(t, "Attain of one point", same(t, e, e, len(got) == 0 && !ok), api.ErrArg)
		}
	}
	got, ok, e := gauge.Attain(full(), 0, 59, 3)
	if !ok || e != api.OK || got[59]-got[0] != 3 {
		t.Errorf("Attain in a full system: %v, %v, error %d", got, ok, e)
	}
}

// TestEnds is P1.3.
func TestEnds(t *testing.T) {
	d := dice(6)
	eachSystem(func(s api.System) {
		ends, ok := table(s)
		if !ok {
			return
		}
		for a := range s.Points {
			for b := range s.Points {
				high, up := endIn(ends, a, b, true)
				low, down := endIn(ends, a, b, false)
				n, is, e := gauge.Greatest(s, a, b)
				wantNumber(t, "Greatest", n, is, e, high, up)
				n, is, e = gauge.Least(s, a, b)
				wantNumber(t, "Least", n, is, e, low, down)
				for _, n := range []int{low - 1, low, low + 1, high - 1, high, high + 1, d.below(60) - 30} {
					attained(t, s, a, b, n, (!up || n <= high) && (!down || low <= n))
				}
				pathShows(t, &d, s, a, b, high, up)
			}
		}
	})
}

// attained checks Attain of one difference.
func attained(t *testing.T, s api.System, a, b, n int, want bool) {
	t.Helper()
	x, ok, e := gauge.Attain(s, a, b, n)
	if ok != want || e != api.OK {
		t.Fatalf("Attain(%v, %d, %d, %d): %v, error %d", s, a, b, n, ok, e)
	}
	if !ok {
		wantList(t, "Attain", x)
		return
	}
	if !keeps(s, x) || x[b]-x[a] != n {
		t.Fatalf("Attain(%v, %d, %d, %d): %v", s, a, b, n, x)
	}
	if a == b {
		y, _ := solve(t, s)
		wantList(t, "Attain of one point", x, y...)
		return
	}
	tied, e := gauge.Tie(s, a, b, n)
	wantErr(t, "Tie", e, api.OK)
	y, _ := solve(t, tied)
	wantList(t, "Attain", x, y...)
}

// pathShows checks Path, and lists by dice against CheckPath.
func pathShows(t *testing.T, d *dice, s api.System, a, b, high int, up bool) {
	t.Helper()
	p, ok, e := gauge.Path(s, a, b)
	if ok != up || e != api.OK || !ok && len(p) != 0 {
		t.Fatalf("Path(%v, %d, %d): %v, %v, error %d", s, a, b, p, ok, e)
	}
	if up {
		sum := 0
		for _, i := range p {
			sum += s.Bounds[i].Most
		}
		yes, e := gauge.CheckPath(s, a, b, high, p)
		no, f := gauge.CheckPath(s, a, b, high-1, p)
		if sum != high || !yes || no || e != api.OK || f != api.OK {
			t.Fatalf("CheckPath(%v, %d, %d, %v): %v, %v, errors %d, %d", s, a, b, p, yes, no, e, f)
		}
	}
	for range 5 {
		l := make([]int, d.below(4))
		for i := range l {
			l[i] = d.below(len(s.Bounds)+2) - 1
		}
		most := d.below(30) - 10
		if ok, _ := gauge.CheckPath(s, a, b, most, l); ok && (!up || most < high) {
			t.Fatalf("CheckPath(%v, %d, %d, %d, %v), but the greatest is %d, %v", s, a, b, most, l, high, up)
		}
	}
}

// TestLeastAndGreatest is P1.4.
func TestLeastAndGreatest(t *testing.T) {
	eachSystem(func(s api.System) {
		if _, ok := solve(t, s); !ok {
			return
		}
		for a := range s.Points {
			for b := range s.Points {
				high, up, _ := gauge.Greatest(s, b, a)
				low, ok, e := gauge.Least(s, a, b)
				wantNumber(t, "Least", low, ok, e, -high, up)
				for c := range s.Points {
					ab, one, _ := gauge.Greatest(s, a, b)
					bc, two, _ := gauge.Greatest(s, b, c)
					ac, all, _ := gauge.Greatest(s, a, c)
					if one && two && (!all || ac > ab+bc) {
						t.Fatalf("%v: %d to %d to %d: %d, %d, but %d, %v", s, a, b, c, ab, bc, ac, all)
					}
				}
			}
		}
	})
}

func TestFixedAndRigid(t *testing.T) {
	n, ok, e := gauge.Fixed(three(), 1, 2)
	wantNumber(t, "Fixed", n, ok, e, 4, true)
	n, ok, e = gauge.Fixed(three(), 2, 1)
	wantNumber(t, "Fixed", n, ok, e, -4, true)
	n, ok, e = gauge.Fixed(three(), 0, 1)
	wantNumber(t, "Fixed", n, ok, e, 0, false)
	n, ok, e = gauge.Fixed(three(), 0, 0)
	wantNumber(t, "Fixed", n, ok, e, 0, true)
	n, ok, e = gauge.Fixed(system(2), 0, 1)
	wantNumber(t, "Fixed without bounds", n, ok, e, 0, false)
	n, ok, e = gauge.Fixed(system(2, bound(0, 1, 0, 1), bound(1, 0, 0, 1)), 0, 1)
	wantNumber(t, "Fixed at 0", n, ok, e, 0, true)
	for _, x := range []struct {
		s    api.System
		want []int
	}{
		{three(), []int{0, 1, 1}},
		{system(1), []int{0}},
		{system(3), []int{0, 1, 2}},
		{system(4, bound(3, 1, 2, 0), bound(1, 3, -2, 0), bound(0, 2, 0, 0), bound(2, 0, 0, 0)), []int{0, 1, 0, 1}},
		{system(3, bound(0, 1, -1, 0), bound(1, 2, -1, 0), bound(2, 0, 2, 0)), []int{0, 0, 0}},
	} {
		l, e := gauge.Rigid(x.s)
		wantErr(t, "Rigid", e, api.OK)
		wantList(t, "Rigid", l, x.want...)
	}
}

// TestRigid is P1.8.
func TestRigid(t *testing.T) {
	eachSystem(func(s api.System) {
		ends, ok := table(s)
		if !ok {
			return
		}
		first, e := gauge.Rigid(s)
		wantErr(t, "Rigid", e, api.OK)
		for a := range s.Points {
			for b := range s.Points {
				high, up := endIn(ends, a, b, true)
				low, down := endIn(ends, a, b, false)
				fixed := up && down && low == high
				n, is, e := gauge.Fixed(s, a, b)
				if fixed {
					wantNumber(t, "Fixed", n, is, e, high, true)
				} else {
					wantNumber(t, "Fixed", n, is, e, 0, false)
				}
				if fixed != (first[a] == first[b]) {
					t.Fatalf("Rigid(%v): %v, but %d, %d fixed: %v", s, first, a, b, fixed)
				}
			}
			if first[a] > a || first[first[a]] != first[a] {
				t.Fatalf("Rigid(%v): %v", s, first)
			}
		}
	})
}
