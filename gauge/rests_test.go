package gauge_test

import (
	"slices"
	"testing"

	"conjoin/api"
	"conjoin/gauge"
)

func TestRests(t *testing.T) {
	s := three()
	twice := system(2, bound(0, 1, 5, 3), bound(0, 1, 5, 4), bound(0, 1, 6, 2))
	for _, x := range []struct {
		s     api.System
		a, b  int
		upper bool
		want  []int
	}{
		{s, 0, 2, true, []int{7, 9}},
		{s, 0, 1, false, []int{8}},
		{s, 1, 1, true, nil},
		{s, 1, 1, false, nil},
		{s, 2, 0, true, []int{8, 9}},
		{s, 1, 2, true, []int{9}},
		{twice, 0, 1, true, []int{3}},
		{twice, 0, 1, false, nil},
		{twice, 1, 0, false, []int{3}},
		{system(2), 0, 1, true, nil},
		{system(2, bound(0, 1, 5, 0), bound(0, 1, 5, 4)), 0, 1, true, nil},
		{system(2, bound(0, 1, 5, 0), bound(0, 1, 4, 4)), 0, 1, true, []int{4}},
		// The last Id is tried first, so that the lesser ones stay, though they are more.
		{system(3, bound(0, 1, 2, 1), bound(1, 2, 2, 2), bound(0, 2, 4, 3)), 0, 2, true, []int{1, 2}},
		{system(3, bound(0, 1, 2, 2), bound(1, 2, 2, 3), bound(0, 2, 4, 1)), 0, 2, true, []int{1}},
	} {
		l, e := gauge.Rests(x.s, x.a, x.b, x.upper)
		wantErr(t, "Rests", e, api.OK)
		wantList(t, "Rests", l, x.want...)
	}
}

func TestDoubt(t *testing.T) {
	for _, x := range []struct {
		s    api.System
		is   bool
		want []int
	}{
		{bad(), true, []int{5, 7}},
		{three(), false, nil},
		{system(1), false, nil},
		{system(2, bound(0, 1, -1, 0), bound(1, 0, 0, 0), bound(0, 1, -5, 3)), true, nil},
		{system(2, bound(0, 1, -1, 0), bound(1, 0, 0, 6)), true, []int{6}},
		{system(2, bound(0, 1, -1, 6), bound(1, 0, 0, 6)), true, []int{6}},
		// Two contradictions: the one with the greatest Id is given up first.
		{system(3, bound(0, 1, -1, 9), bound(1, 0, 0, 1), bound(1, 2, -1, 5), bound(2, 1, 0, 4)), true, []int{4, 5}},
	} {
		l, is, e := gauge.Doubt(x.s)
		if is != x.is || e != api.OK {
			t.Errorf("Doubt(%v): %v, error %d", x.s, is, e)
		}
		wantList(t, "Doubt", l, x.want...)
	}
}

// TestWhatItRestsOn is P1.6.
func TestWhatItRestsOn(t *testing.T) {
	eachSystem(func(s api.System) {
		ends, ok := table(s)
		doubt, is, e := gauge.Doubt(s)
		if is == ok || e != api.OK {
			t.Fatalf("Doubt(%v): %v, error %d", s, is, e)
		}
		if !ok {
			wantList(t, "Doubt", doubt, needed(s, unsolvable)...)
			alone(t, s, doubt, unsolvable)
			return
		}
		wantList(t, "Doubt", doubt)
		for a := range s.Points {
			for b := range s.Points {
				for _, upper := range []bool{true, false} {
					l, e := gauge.Rests(s, a, b, upper)
					wantErr(t, "Rests", e, api.OK)
					n, there := endIn(ends, a, b, upper)
					if !there {
						wantList(t, "Rests", l)
						continue
					}
					still := func(u api.System) bool {
						t, _ := table(u)
						m, ok := endIn(t, a, b, upper)
						return ok && m == n
					}
					wantList(t, "Rests", l, needed(s, still)...)
					alone(t, s, l, still)
				}
			}
		}
	})
}

func unsolvable(s api.System) bool {
	_, ok := table(s)
	return !ok
}

// alone checks that something holds with some Ids alone, and not without any one of them.
func alone(t *testing.T, s api.System, ids []int, holds func(api.System) bool) {
	t.Helper()
	if !slices.IsSorted(ids) {
		t.Fatalf("%v: Ids %v", s, ids)
	}
	only, e := gauge.Only(s, ids)
	if e != api.OK || !holds(only) {
		t.Fatalf("%v: not with %v alone, error %d", s, ids, e)
	}
	for _, id := range ids {
		less, e := gauge.Without(only, id)
		if e != api.OK || holds(less) {
			t.Fatalf("%v: still without %d of %v, error %d", s, id, ids, e)
		}
	}
}

func TestChanged(t *testing.T) {
	s := three()
	for _, x := range []struct {
		s    api.System
		x    api.Bound
		a    int
		want []int
	}{
		{s, bound(0, 1, 3, 6), 0, []int{1, 2}},
		{s, bound(0, 1, 6, 6), 0, nil},
		{s, bound(0, 1, 5, 6), 0, nil},
		{s, bound(0, 1, 3, 6), 1, []int{0}},
		{s, bound(0, 1, 3, 6), 2, []int{0}},
		{s, bound(1, 0, -3, 0), 0, []int{1, 2}},
		{system(3), bound(0, 1, 3, 6), 0, []int{1}},
		{system(3), bound(0, 1, 3, 6), 1, []int{0}},
		{system(3), bound(0, 1, 3, 6), 2, nil},
		{system(3, bound(1, 2, 1000000, 0)), bound(0, 1, 1000000, 6), 0, []int{1, 2}},
	} {
		l, e := gauge.Changed(x.s, x.x, x.a)
		wantErr(t, "Changed", e, api.OK)
		wantList(t, "Changed", l, x.want...)
	}
	for _, x := range []struct {
		s    api.System
		x    api.Bound
		a    int
		want api.Errno
	}{
		{s, bound(1, 0, -6, 0), 0, api.ErrCircle},
		{bad(), bound(0, 1, 100, 0), 0, api.ErrCircle},
		{s, bound(1, 0, -6, 0), 3, api.ErrArg},
		{s, bound(1, 1, 0, 0), 0, api.ErrArg},
		{bad(), bound(1, 1, 0, 0), 0, api.ErrArg},
		{s, bound(0, 1, 0, 0), -1, api.ErrArg},
		{full(), bound(0, 1, 0, 0), 0, api.ErrLimit},
		{full(), bound(0, 0, 0, 0), -1, api.ErrLimit},
		{system(0), bound(0, 1, 0, 0), 0, api.ErrArg},
		{system(61), bound(0, 0, 0, 0), -1, api.ErrLimit},
	} {
		l, e := gauge.Changed(x.s, x.x, x.a)
		wantErr(t, "Changed", e, x.want)
		wantList(t, "Changed", l)
	}
}

// TestMoreBounds is P1.5, with Changed against the oracle.
func TestMoreBounds(t *testing.T) {
	d := dice(7)
	eachSystem(func(s api.System) {
		if s.Points < 2 {
			return
		}
		x := d.anyBound(s.Points)
		more, e := gauge.With(s, x)
		wantErr(t, "With", e, api.OK)
		before, _ := table(s)
		after, ok := table(more)
		a := d.below(s.Points)
		got, e := gauge.Changed(s, x, a)
		if !ok {
			wantErr(t, "Changed", e, api.ErrCircle)
			return
		}
		wantErr(t, "Changed", e, api.OK)
		var want []int
		for b := range s.Points {
			if before[a][b] != after[a][b] || before[b][a] != after[b][a] {
				want = append(want, b)
			}
			narrows(t, s, more, a, b)
			less, e := gauge.Without(s, x.By)
			wantErr(t, "Without", e, api.OK)
			narrows(t, less, s, a, b)
		}
		wantList(t, "Changed", got, want...)
	})
}

// narrows checks that one system leaves a difference no more than another one does.
func narrows(t *testing.T, wide, narrow api.System, a, b int) {
	t.Helper()
	n, was, _ := gauge.Greatest(wide, a, b)
	m, is, _ := gauge.Greatest(narrow, a, b)
	if was && (!is || m > n) {
		t.Fatalf("Greatest: %d in %v, %d, %v in %v", n, wide, m, is, narrow)
	}
	n, was, _ = gauge.Least(wide, a, b)
	m, is, _ = gauge.Least(narrow, a, b)
	if was && (!is || m < n) {
		t.Fatalf("Least: %d in %v, %d, %v in %v", n, wide, m, is, narrow)
	}
}
