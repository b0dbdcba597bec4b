package gauge_test

import (
	"math"
	"slices"
	"testing"

	"conjoin/api"
	"conjoin/gauge"
)

func TestSolve(t *testing.T) {
	for _, x := range []struct {
		s    api.System
		want []int
		ok   bool
	}{
		{three(), []int{-6, -4, 0}, true},
		{bad(), nil, false},
		{system(1), []int{0}, true},
		{system(4), []int{0, 0, 0, 0}, true},
		{system(2, bound(0, 1, -1000000, 0)), []int{0, -1000000}, true},
		{system(2, bound(0, 1, 7, 0), bound(1, 0, -7, 0)), []int{-7, 0}, true},
		{system(2, bound(0, 1, 7, 0), bound(1, 0, -8, 0)), nil, false},
		{system(4, bound(2, 3, -1, 0), bound(3, 2, 0, 0)), nil, false},
	} {
		got, ok := solve(t, x.s)
		if ok != x.ok {
			t.Errorf("Solve(%v): %v", x.s, ok)
		}
		wantList(t, "Solve", got, x.want...)
	}
}

// TestSolveFar has the longest path that there can be.
func TestSolveFar(t *testing.T) {
	s := system(api.MaxPoints)
	for p := range api.MaxPoints - 1 {
		s.Bounds = append(s.Bounds, bound(p, p+1, -api.MaxMost, 1))
	}
	x, ok := solve(t, s)
	if !ok || x[59] != -59*api.MaxMost {
		t.Errorf("Solve: %v, %v", x, ok)
	}
	n, is, e := gauge.Greatest(s, 0, 59)
	wantNumber(t, "Greatest", n, is, e, -59*api.MaxMost, true)
	p, is, e := gauge.Path(s, 0, 59)
	if !is || e != api.OK || len(p) != 59 {
		t.Errorf("Path: %v, %v, error %d", p, is, e)
	}
	s.Bounds = append(s.Bounds, bound(59, 0, 59*api.MaxMost/60, 2))
	c, is, e := gauge.Circle(s)
	if !is || e != api.OK || len(c) != 60 {
		t.Errorf("Circle: %v, %v, error %d", c, is, e)
	}
	if ok, e := gauge.CheckCircle(s, c); !ok || e != api.OK {
		t.Errorf("CheckCircle: %v, error %d", ok, e)
	}
}

// TestSolveGreatest is P1.9.
func TestSolveGreatest(t *testing.T) {
	d := dice(4)
	eachSystem(func(s api.System) {
		x, ok := solve(t, s)
		if !ok {
			return
		}
		for p, n := range x {
			if n > 0 || n < -100 {
				t.Fatalf("Solve(%v): %v", s, x)
			}
			y := slices.Clone(x)
			if y[p]++; n < 0 && keeps(s, y) {
				t.Fatalf("Solve(%v): %v, but %v is greater", s, x, y)
			}
		}
		// The other solutions at most 0: lesser numbers by dice, lowered to what the bounds leave.
		y := slices.Clone(x)
		for p := range y {
			y[p] = -d.below(15)
		}
		for range 40 {
			for _, b := range s.Bounds {
				y[b.To] = min(y[b.To], y[b.From]+b.Most)
			}
		}
		for p := range y {
			if y[p] > x[p] {
				t.Fatalf("Solve(%v): %v, but %v is a solution", s, x, y)
			}
		}
		far := d.below(2000) - 1000
		for p := range x {
			x[p] += far
		}
		if kept, e := gauge.Keeps(s, x); !kept || e != api.OK {
			t.Fatalf("%v, moved: %v, error %d", x, kept, e)
		}
	})
}

func TestCircle(t *testing.T) {
	for _, x := range []struct {
		s api.System
		n int
	}{
		{three(), 0},
		{bad(), 2},
		{system(1), 0},
		{system(3), 0},
		{system(3, bound(0, 1, 1, 0), bound(1, 2, 1, 0), bound(2, 0, -3, 0)), 3},
		{system(3, bound(0, 1, 1, 0), bound(1, 2, 1, 0), bound(2, 0, -2, 0)), 0},
		{system(3, bound(0, 1, 9, 0), bound(0, 1, 1, 0), bound(1, 2, 1, 0), bound(2, 0, -3, 0), bound(2, 0, 5, 0)), 3},
		{system(5, bound(0, 1, -9, 0), bound(1, 2, -9, 0), bound(2, 0, -9, 0), bound(3, 4, 5, 0), bound(4, 3, -6, 0)), 2},
	} {
		c, is, e := gauge.Circle(x.s)
		if e != api.OK || is != (x.n > 0) || len(c) != x.n {
			t.Errorf("Circle(%v): %v, %v, error %d", x.s, c, is, e)
		}
		if ok, e := gauge.CheckCircle(x.s, c); ok != is || e != api.OK {
			t.Errorf("CheckCircle(%v, %v): %v, error %d", x.s, c, ok, e)
		}
	}
}

func TestCheckCircle(t *testing.T) {
	c := bad()
	c.Bounds = append(c.Bounds, bound(2, 0, -1000, 0), bound(0, 2, -1000, 0))
	for _, x := range []struct {
		list []int
		want bool
	}{
		{[]int{0, 4}, true},
		{[]int{4, 0}, true},
		{[]int{0, 1}, false},
		{[]int{0}, false},
		{nil, false},
		{[]int{}, false},
		{[]int{0, 4, 0, 4}, false},
		{[]int{0, 9}, false},
		{[]int{9, 0}, false},
		{[]int{-1, 0}, false},
		{[]int{math.MaxInt, math.MinInt}, false},
		{[]int{1, 4}, false},
		{[]int{0, 2, 5}, true},
		{[]int{5, 0, 2}, true},
		{[]int{0, 5, 2}, false},
		{[]int{5, 0}, false},
		{[]int{2, 3}, false},
		{[]int{0, 2, 3, 4}, false},
		{[]int{5, 6}, true},
		{[]int{4}, false},
		{[]int{4, 0, 2, 5, 6}, false},
		{slices.Repeat([]int{5, 6}, 5000), false},
	} {
		if ok, e := gauge.CheckCircle(c, x.list); ok != x.want || e != api.OK {
			t.Errorf("CheckCircle(%v): %v, error %d", x.list, ok, e)
		}
	}
	even := system(2, bound(0, 1, 3, 0), bound(1, 0, -3, 0))
	if ok, e := gauge.CheckCircle(even, []int{0, 1}); ok || e != api.OK {
		t.Errorf("CheckCircle of a sum of 0: %v, error %d", ok, e)
	}
}

// TestOneOfTwo is P1.2.
func TestOneOfTwo(t *testing.T) {
	d := dice(5)
	with, without := 0, 0
	eachSystem(func(s api.System) {
		x, solved := solve(t, s)
		c, is, e := gauge.Circle(s)
		wantErr(t, "Circle", e, api.OK)
		if _, want := table(s); solved != want || is == solved {
			t.Fatalf("%v: Solve %v, Circle %v, %v", s, solved, is, c)
		}
		if solved {
			with++
			if ok, e := gauge.Keeps(s, x); !ok || e != api.OK {
				t.Fatalf("Keeps(%v, %v): %v, error %d", s, x, ok, e)
			}
		} else {
			without++
		}
		if ok, _ := gauge.CheckCircle(s, c); ok != is || len(c) != shortest(s) {
			t.Fatalf("CheckCircle(%v, %v): %v; the fewest are %d", s, c, ok, shortest(s))
		}
		// Lists by dice: if one is accepted, there is no solution, and none is shorter than that of Circle.
		for range 20 {
			l := make([]int, d.below(4))
			for i := range l {
				l[i] = d.below(len(s.Bounds)+2) - 1
			}
			if ok, _ := gauge.CheckCircle(s, l); ok && (solved || len(l) < len(c)) {
				t.Fatalf("CheckCircle(%v, %v), but solved %v, circle %v", s, l, solved, c)
			}
		}
	})
	if with < 100 || without < 100 {
		t.Errorf("only %d systems with a solution, %d without", with, without)
	}
}
