package sherd_test

import (
	"math"
	"slices"
	"testing"

	"conjoin/api"
	"conjoin/oracle"
	"conjoin/sherd"
)

func wantOutline(t *testing.T, l []api.Item, day, id, n int) {
	t.Helper()
	o, e := sherd.Outline(l, day, id)
	ways, turns := wayBounds(n, own(l, day, id, 2)), turnBounds(n, own(l, day, id, 3))
	if e != api.OK || o.Corners != n || !slices.Equal(o.Ways, ways) || !slices.Equal(o.Turns, turns) {
		t.Errorf("Outline(%v, %d, %d): %v, error %d, want %d corners, %v, %v", l, day, id, o, e, n, ways, turns)
	}
	if s := sherd.Ways(o); s.Points != n+1 || !slices.Equal(s.Bounds, ways) {
		t.Errorf("Ways(%v): %v", o, s)
	}
	if s := sherd.Turns(o); s.Points != n || !slices.Equal(s.Bounds, turns) {
		t.Errorf("Turns(%v): %v", o, s)
	}
}

// TestOutline is B4.
func TestOutline(t *testing.T) {
	eachSherd(t, 300, func(l []api.Item, day, id, n int) { wantOutline(t, l, day, id, n) })
	l := read(t, "7 0 sherd a 1 1 16", "9 1 way 7 0 16 100 200", "8 1 turn 7 0 15 -5 2880", "3 1 way 7 15 16 4 4", "2 2 turn 7 3 4 -2880 -2880", "1 3 void 9")
	for day := range 5 {
		wantOutline(t, l, day, 7, 16)
	}
	for _, n := range []int{math.MinInt, -1, 0, 2, 17, math.MaxInt} {
		o := api.Outline{Corners: n, Ways: make([]api.Bound, 3), Turns: make([]api.Bound, 3)}
		if s := sherd.Ways(o); s.Points != 0 || len(s.Bounds) != 0 {
			t.Errorf("Ways with %d corners: %v", n, s)
		}
		if s := sherd.Turns(o); s.Points != 0 || len(s.Bounds) != 0 {
			t.Errorf("Turns with %d corners: %v", n, s)
		}
	}
	any := []api.Bound{{From: -1, To: 99, Most: math.MaxInt, By: -7}}
	for _, n := range []int{3, 16} {
		o := api.Outline{Corners: n, Ways: any, Turns: append(any, any...)}
		if s := sherd.Ways(o); s.Points != n+1 || !slices.Equal(s.Bounds, o.Ways) {
			t.Errorf("Ways of any bounds: %v", s)
		}
		if s := sherd.Turns(o); s.Points != n || !slices.Equal(s.Bounds, o.Turns) {
			t.Errorf("Turns of any bounds: %v", s)
		}
	}
}

func wantWay(t *testing.T, l []api.Item, day, id, from, to int, low, high int, ok bool, want api.Errno) {
	t.Helper()
	if a, b, there, e := sherd.Way(l, day, id, from, to); a != low || b != high || there != ok || e != want {
		t.Errorf("Way(%v, %d, %d, %d, %d): %d, %d, %v, error %d, want %d, %d, %v, error %d", l, day, id, from, to, a, b, there, e, low, high, ok, want)
	}
}

func wantTurn(t *testing.T, l []api.Item, day, id, from, to int, low, high int, want api.Errno) {
	t.Helper()
	if a, b, e := sherd.Turn(l, day, id, from, to); a != low || b != high || e != want {
		t.Errorf("Turn(%v, %d, %d, %d, %d): %d, %d, error %d, want %d, %d, error %d", l, day, id, from, to, a, b, e, low, high, want)
	}
}

func TestValuesOfExamples(t *testing.T) {
	l := shelf(t)
	wantWay(t, l, 1, 1, 0, 1, 18, 24, true, api.OK)
	wantWay(t, l, 2, 1, 0, 3, 0, 0, false, api.OK)
	wantWay(t, l, 2, 1, 3, 4, 0, 0, false, api.OK)
	wantWay(t, l, 5, 1, 0, 1, 0, 0, false, api.ErrDoubt)
	wantTurn(t, l, 5, 1, 0, 1, -179, 179, api.OK)
	wantTurn(t, l, 5, 1, 0, 3, -537, 537, api.OK)
	for _, id := range []int{2, 0, -1, 8, math.MaxInt} {
		wantWay(t, l, 9, id, 9, 9, 0, 0, false, api.ErrSherd)
		wantTurn(t, l, 9, id, 9, 9, 0, 0, api.ErrSherd)
	}
	// A sherd in doubt, so that ErrArg has to come first.
	m := append(slices.Clone(l), read(t, "9 6 turn 1 0 1 170 179", "10 6 turn 1 0 2 -170 -170", "11 6 turn 1 1 2 -2 2")...)
	for _, c := range [][2]int{{1, 1}, {2, 1}, {-1, 2}, {0, 5}, {4, 5}, {math.MinInt, math.MaxInt}, {0, math.MaxInt}} {
		wantWay(t, m, 6, 1, c[0], c[1], 0, 0, false, api.ErrArg)
		wantTurn(t, m, 6, 1, c[0], c[1], 0, 0, api.ErrArg)
	}
	wantWay(t, m, 6, 1, 0, 4, 0, 0, false, api.ErrDoubt)
	wantTurn(t, m, 6, 1, 0, 4, 0, 0, api.ErrArg)
	wantTurn(t, m, 6, 1, 2, 3, 0, 0, api.ErrDoubt)
	wantTurn(t, m, 5, 1, 2, 3, -179, 179, api.OK)
	// Doubt of ways is none of turns.
	wantTurn(t, l, 5, 1, 2, 3, -179, 179, api.OK)
}

// TestEnds is B5 for all corners and sides, against the oracle.
func TestEnds(t *testing.T) {
	doubtful, endless, inside := 0, 0, 0
	eachSherd(t, 300, func(l []api.Item, day, id, n int) {
		m, ok := oracle.Differences(n+1, wayBounds(n, own(l, day, id, 2)))
		for from := range n {
			for to := from + 1; to <= n; to++ {
				switch {
				case !ok:
					doubtful++
					wantWay(t, l, day, id, from, to, 0, 0, false, api.ErrDoubt)
				case m[from][to] == oracle.Far:
					endless++
					wantWay(t, l, day, id, from, to, 0, 0, false, api.OK)
				default:
					inside++
					wantWay(t, l, day, id, from, to, -m[to][from], m[from][to], true, api.OK)
				}
			}
		}
		m, ok = oracle.Differences(n, turnBounds(n, own(l, day, id, 3)))
		for from := range n {
			for to := from + 1; to < n; to++ {
				if ok {
					wantTurn(t, l, day, id, from, to, -m[to][from], m[from][to], api.OK)
				} else {
					wantTurn(t, l, day, id, from, to, 0, 0, api.ErrDoubt)
				}
			}
		}
	})
	if doubtful < 100 || endless < 100 || inside < 100 {
		t.Errorf("%d in doubt, %d without an end, %d with both", doubtful, endless, inside)
	}
}

// keeps says whether numbers keep all bounds.
func keeps(x []int, bounds []api.Bound) bool {
	for _, b := range bounds {
		if x[b.To]-x[b.From] > b.Most {
			return false
		}
	}
	return true
}

// attained are all differences of two numbers of outlines that keep all bounds.
func attained(points int, bounds []api.Bound, outlines func(func([]int))) map[[2]int]map[int]bool {
	m := map[[2]int]map[int]bool{}
	for from := range points {
		for to := range from {
			m[[2]int{to, from}] = map[int]bool{}
		}
	}
	outlines(func(x []int) {
		if keeps(x, bounds) {
			for c, set := range m {
				set[x[c[1]]-x[c[0]]] = true
			}
		}
	})
	return m
}

// TestSharp is P2.2: all outlines of three corners are tried, up to a length. Ways by dice measure at most 15, so that a way of more than 45 has no end, and 30 are left for what is beside it.
func TestSharp(t *testing.T) {
	const most, endless = 76, 46
	outlines := func(f func([]int)) {
		for b := 1; b <= most-2; b++ {
			for c := b + 1; c <= most-1; c++ {
				for d := c + 1; d <= most; d++ {
					f([]int{0, b, c, d})
				}
			}
		}
	}
	views := 0
	eachSherd(t, 120, func(l []api.Item, day, id, n int) {
		ways := own(l, day, id, 2)
		if n != 3 || len(ways) == 0 {
			return
		}
		if views++; views%5 > 0 {
			return
		}
		for c, set := range attained(4, wayBounds(3, ways), outlines) {
			low, high, ok, e := sherd.Way(l, day, id, c[0], c[1])
			if (e == api.ErrDoubt) != (len(set) == 0) {
				t.Fatalf("Way(%v, %d, %d, %v): error %d, but there are the ways %v", l, day, id, c, e, set)
			}
			if e == api.OK && ok == set[endless] {
				t.Fatalf("Way(%v, %d, %d, %v): %v, but there are the ways %v", l, day, id, c, ok, set)
			}
			for n := 1; ok && n <= endless; n++ {
				if set[n] != (low <= n && n <= high) {
					t.Fatalf("Way(%v, %d, %d, %v): %d to %d, but there are the ways %v", l, day, id, c, low, high, set)
				}
			}
		}
	})
	if views < 500 {
		t.Errorf("only %d views", views)
	}
}

// TestSharpTurns is P2.2 of turns: all directions of three sides are tried.
func TestSharpTurns(t *testing.T) {
	outlines := func(f func([]int)) {
		for b := -179; b <= 179; b++ {
			for c := b - 179; c <= b+179; c++ {
				f([]int{0, b, c})
			}
		}
	}
	views := 0
	eachSherd(t, 200, func(l []api.Item, day, id, n int) {
		turns := own(l, day, id, 3)
		if n != 3 || len(turns) == 0 {
			return
		}
		if views++; views%10 > 0 {
			return
		}
		for c, set := range attained(3, turnBounds(3, turns), outlines) {
			low, high, e := sherd.Turn(l, day, id, c[0], c[1])
			if (e == api.ErrDoubt) != (len(set) == 0) {
				t.Fatalf("Turn(%v, %d, %d, %v): error %d, but there are the turns %v", l, day, id, c, e, set)
			}
			for n := -400; e == api.OK && n <= 400; n++ {
				if set[n] != (low <= n && n <= high) {
					t.Fatalf("Turn(%v, %d, %d, %v): %d to %d, but there are the turns %v", l, day, id, c, low, high, set)
				}
			}
		}
	})
	if views < 500 {
		t.Errorf("only %d views", views)
	}
}

// TestBetween is P2.7: ways, and turns, by way of a corner, or a side, between.
func TestBetween(t *testing.T) {
	eachSherd(t, 200, func(l []api.Item, day, id, n int) {
		for a := range n {
			for b := a + 1; b < n; b++ {
				for c := b + 1; c <= n; c++ {
					low, high, ok, _ := sherd.Way(l, day, id, a, c)
					low1, high1, ok1, _ := sherd.Way(l, day, id, a, b)
					low2, high2, ok2, _ := sherd.Way(l, day, id, b, c)
					if ok && (low < low1+low2 || !ok1 || !ok2) || ok1 && ok2 && (!ok || high > high1+high2) {
						t.Errorf("Way of %v on day %d: %d, %d and %d", l, day, a, b, c)
					}
				}
				for c := b + 1; c < n; c++ {
					low, high, _ := sherd.Turn(l, day, id, a, c)
					low1, high1, _ := sherd.Turn(l, day, id, a, b)
					low2, high2, _ := sherd.Turn(l, day, id, b, c)
					if low < low1+low2 || high > high1+high2 {
						t.Errorf("Turn of %v on day %d: %d, %d and %d", l, day, a, b, c)
					}
				}
			}
		}
	})
}

func wantColour(t *testing.T, l []api.Item, day, id int, want api.Span, wantErr api.Errno) {
	t.Helper()
	if s, e := sherd.Colour(l, day, id); s != want || e != wantErr {
		t.Errorf("Colour(%v, %d, %d): %v, error %d, want %v, error %d", l, day, id, s, e, want, wantErr)
	}
}

func wantCurves(t *testing.T, l []api.Item, day, id int, want string, wantErr api.Errno) {
	t.Helper()
	if s, e := sherd.Curves(l, day, id); s != want || e != wantErr {
		t.Errorf("Curves(%v, %d, %d): %q, error %d, want %q, error %d", l, day, id, s, e, want, wantErr)
	}
}

// TestColours is B6.
func TestColours(t *testing.T) {
	l := shelf(t)
	wantColour(t, l, 1, 1, api.Span{High: 1000}, api.OK)
	wantColour(t, l, 2, 1, api.Span{Low: 300, High: 500, LowBy: 4, HighBy: 4}, api.OK)
	wantColour(t, l, 3, 1, api.Span{Low: 450, High: 500, LowBy: 5, HighBy: 4}, api.OK)
	wantColour(t, l, 3, 2, api.Span{}, api.ErrSherd)
	wantCurves(t, l, 3, 1, "bcd", api.OK)
	wantCurves(t, l, 2, 1, "abcdefghijklmnopqrstuvwxyz", api.OK)
	wantCurves(t, l, 2, 2, "", api.ErrSherd)
	m := read(t, "1 0 sherd a 1 1 3", "9 1 colour 1 0 1000", "8 2 colour 1 5 1000", "7 3 colour 1 5 9", "6 4 colour 1 2 9", "5 5 colour 1 9 9", "4 6 colour 1 10 11", "3 7 void 5", "2 7 void 7", "10 8 void 6", "11 9 colour 1 0 0")
	for day, want := range []api.Span{
		{High: 1000}, {High: 1000}, {Low: 5, High: 1000, LowBy: 8}, {Low: 5, High: 9, LowBy: 8, HighBy: 7}, {Low: 5, High: 9, LowBy: 8, HighBy: 7}, {Low: 9, High: 9, LowBy: 5, HighBy: 7},
		{}, {}, {Low: 10, High: 11, LowBy: 4, HighBy: 4}, {},
	} {
		e := api.OK
		if want.High == 0 {
			e = api.ErrDoubt
		}
		wantColour(t, m, day, 1, want, e)
	}
	wantColour(t, read(t, "1 0 sherd a 1 1 3", "2 0 colour 1 0 0"), 0, 1, api.Span{HighBy: 2}, api.OK)
	wantColour(t, read(t, "1 0 sherd a 1 1 3", "2 0 colour 1 1000 1000"), 0, 1, api.Span{Low: 1000, High: 1000, LowBy: 2}, api.OK)
	c := read(t, "1 0 sherd a 1 1 3", "2 1 curve 1 abyz", "3 2 curve 1 ayz", "4 3 curve 1 bz", "5 4 curve 1 ay", "6 5 void 4", "7 6 void 3", "8 7 curve 1 b")
	for day, want := range []string{"abcdefghijklmnopqrstuvwxyz", "abyz", "ayz", "z", "", "ay", "ay", ""} {
		e := api.OK
		if want == "" {
			e = api.ErrDoubt
		}
		wantCurves(t, c, day, 1, want, e)
	}
	eachSherd(t, 300, func(l []api.Item, day, id, n int) {
		want, e := spanOf(own(l, day, id, 4))
		wantColour(t, l, day, id, want, e)
		curves := classes(own(l, day, id, 5))
		e = api.OK
		if curves == "" {
			e = api.ErrDoubt
		}
		wantCurves(t, l, day, id, curves, e)
	})
}

// spanOf is the colour by some colours: its ends are those that no number goes beyond.
func spanOf(l []api.Item) (api.Span, api.Errno) {
	s := api.Span{Low: -1}
	for n := range 1001 {
		if !slices.ContainsFunc(l, func(x api.Item) bool { return n < x.Low || n > x.High }) {
			if s.Low < 0 {
				s.Low = n
			}
			s.High = n
		}
	}
	if s.Low < 0 {
		return api.Span{}, api.ErrDoubt
	}
	for _, x := range l {
		if x.Low == s.Low && s.Low > 0 && s.LowBy == 0 {
			s.LowBy = x.Id
		}
		if x.High == s.High && s.High < 1000 && s.HighBy == 0 {
			s.HighBy = x.Id
		}
	}
	return s, api.OK
}
