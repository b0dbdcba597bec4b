package join_test

import (
	"math"
	"slices"
	"strconv"
	"testing"

	"conjoin/api"
	"conjoin/join"
)

// formed are well-formed records, of each kind, with fields at the ends of what is allowed.
func formed() []api.Claim {
	side := func(from, to int) api.Stretch { return api.Stretch{From: from, To: to} }
	return []api.Claim{
		{Id: 1, Kind: 1, A: 1, B: 2, SideA: side(0, 1), SideB: side(0, 1)}, {Id: 1000000, Known: 100000, Kind: 1, A: 1000000, B: 1, SideA: side(15, 16), SideB: side(0, 1)},
		{Id: 1, Kind: 1, A: 1, B: 1000000, SideA: side(0, 16), SideB: side(0, 16)}, {Id: 7, Known: 5, Kind: 2, A: 3, B: 2, SideA: side(2, 4), SideB: side(14, 16)},
		{Id: 1, Kind: 2, A: 2, B: 1, SideA: side(0, 1), SideB: side(3, 4)},
		{Id: 1, Kind: 3, Of: 1}, {Id: 1000000, Known: 100000, Kind: 3, Of: 1000000}, {Id: 2, Kind: 4, Of: 1000000}, {Id: 2, Kind: 4, Of: 1}, {Id: 2, Known: 1, Kind: 5, Of: 1}, {Id: 2, Kind: 5, Of: 1000000},
	}
}

// spoilt are records that are not well-formed, each by one thing alone.
func spoilt() []api.Claim {
	l := []api.Claim{{}, {Id: 1}, {Id: 1, Known: 1, Of: 1}}
	add := func(x api.Claim, change func(*api.Claim)) {
		change(&x)
		l = append(l, x)
	}
	for _, x := range formed() {
		for _, n := range []int{0, -1, 1000001, math.MinInt, math.MaxInt} {
			add(x, func(x *api.Claim) { x.Id = n })
			if x.Kind > 2 {
				add(x, func(x *api.Claim) { x.Of = n })
			} else {
				add(x, func(x *api.Claim) { x.A = n })
				add(x, func(x *api.Claim) { x.B = n })
			}
		}
		for _, n := range []int{-1, 100001, math.MinInt, math.MaxInt} {
			add(x, func(x *api.Claim) { x.Known = n })
		}
		for _, n := range []uint8{0, 6, 255} {
			add(x, func(x *api.Claim) { x.Kind = n })
		}
		if x.Kind > 2 {
			add(x, func(x *api.Claim) { x.A = 1 })
			add(x, func(x *api.Claim) { x.B = 1 })
			add(x, func(x *api.Claim) { x.SideA.From = 1 })
			add(x, func(x *api.Claim) { x.SideA.To = 1 })
			add(x, func(x *api.Claim) { x.SideB.From = -1 })
			add(x, func(x *api.Claim) { x.SideB.To = 1 })
			add(x, func(x *api.Claim) { x.Kind = 1 })
			continue
		}
		add(x, func(x *api.Claim) { x.Of = 1 })
		add(x, func(x *api.Claim) { x.Of = -1 })
		add(x, func(x *api.Claim) { x.Kind = 3 })
		add(x, func(x *api.Claim) { x.A = x.B })
		add(x, func(x *api.Claim) { x.SideA.To, x.SideB.To = x.SideA.From, x.SideB.From })
		for _, s := range []api.Stretch{{}, {From: -1, To: 1}, {From: 2, To: 1}, {From: 15, To: 17}, {From: 16, To: 17}, {From: math.MinInt, To: math.MaxInt}, {From: math.MaxInt, To: math.MinInt}, {From: 5, To: 8}} {
			add(x, func(x *api.Claim) { x.SideA = s })
			add(x, func(x *api.Claim) { x.SideB = s })
			if s.To != 8 {
				add(x, func(x *api.Claim) { x.SideA, x.SideB = s, s })
			}
		}
	}
	return l
}

// TestCheckClaim is CheckClaim of E1.
func TestCheckClaim(t *testing.T) {
	for _, x := range formed() {
		wantErr(t, "CheckClaim of a record that is well-formed", join.CheckClaim(x), api.OK)
	}
	for _, x := range spoilt() {
		if e := join.CheckClaim(x); e != api.ErrArg {
			t.Errorf("CheckClaim(%+v): error %d", x, e)
		}
		want(t, x, all(join.Check([]api.Claim{x})), all(0, api.ErrArg))
		want(t, x, all(join.Append(nil, x)), all(none, api.ErrArg))
	}
}

// TestErrorsInOrder has records with more than one thing wrong: the error that the chapter names first counts.
func TestErrorsInOrder(t *testing.T) {
	l := records(t, "1 3 beside 1 2 0 1 0 1", "2 3 confirm 1", "3 3 drop 1", "4 4 void 2", "5 4 below 8 9 0 1 0 1", "6 4 void 5")
	for line, e := range map[string]api.Errno{
		"2 3 beside 1 2 0 1 0 1": api.ErrTwice, "2 3 confirm 99": api.ErrTwice, "7 3 confirm 99": api.ErrTime, "7 3 drop 1": api.ErrTime, "7 3 void 2": api.ErrTime, "7 3 below 1 2 0 1 0 1": api.ErrTime,
		"7 4 beside 1 2 0 1 0 1": api.OK, "7 4 below 7 8 0 1 0 1": api.OK, "7 4 confirm 99": api.ErrNone, "7 4 drop 99": api.ErrNone, "7 4 void 99": api.ErrNone, "7 4 confirm 7": api.ErrNone, "7 4 drop 7": api.ErrNone, "7 4 void 7": api.ErrNone,
		// The first confirmation is voided, so that there may be another one; the claim 5 may be named though it is voided.
		"7 4 confirm 1": api.OK, "7 4 drop 1": api.ErrTwice, "7 9 confirm 5": api.OK, "7 4 drop 5": api.OK, "7 4 void 1": api.OK, "7 4 void 3": api.OK,
		"7 4 void 2": api.ErrTwice, "7 4 void 5": api.ErrTwice, "7 4 void 4": api.ErrNone, "7 4 void 6": api.ErrNone,
		"7 4 confirm 2": api.ErrNone, "7 4 confirm 3": api.ErrNone, "7 4 confirm 4": api.ErrNone, "7 4 drop 2": api.ErrNone, "7 4 drop 3": api.ErrNone, "7 4 drop 4": api.ErrNone,
	} {
		x := record(t, line)
		more, err := join.Append(l, x)
		wantErr(t, line, err, e)
		if e == api.OK && !slices.Equal(more, append(slices.Clone(l), x)) || e != api.OK && len(more) > 0 {
			t.Errorf("Append of %s: %v", line, more)
		}
	}
	_, e := join.Append(l, api.Claim{Id: 2, Known: 3, Kind: 3})
	wantErr(t, "not well-formed, and twice", e, api.ErrArg)
	again := append(slices.Clone(l), records(t, "7 4 confirm 1", "8 4 void 7", "9 4 confirm 1")...)
	for line, e := range map[string]api.Errno{"10 4 confirm 1": api.ErrTwice, "10 4 void 7": api.ErrTwice, "10 4 void 9": api.OK, "10 4 drop 1": api.ErrTwice} {
		_, err := join.Append(again, record(t, line))
		wantErr(t, line, err, e)
	}
	bad := append(slices.Clone(l), record(t, "7 4 void 99"), api.Claim{})
	want(t, "Check of a record of none", all(join.Check(bad)), all(6, api.ErrNone))
	want(t, "Append to it", all(join.Append(bad, api.Claim{})), all(none, api.ErrNone))
	want(t, "Check of no records", all(join.Check(nil)), all(0, api.OK))
}

// none is an empty list.
var none []api.Claim

// proposals are so many claims, with the Ids from 1 on.
func proposals(n int) []api.Claim {
	var l []api.Claim
	for i := range n {
		l = append(l, api.Claim{Id: i + 1, Kind: 1, A: 1, B: 2, SideA: api.Stretch{To: 1}, SideB: api.Stretch{To: 1}})
	}
	return l
}

func TestLimits(t *testing.T) {
	l := proposals(202)
	want(t, "200 records", all(join.Check(l[:200])), all(0, api.OK))
	want(t, "201 records", all(join.Check(l[:201])), all(200, api.ErrLimit))
	l[200] = api.Claim{}
	want(t, "202 records", all(join.Check(l)), all(200, api.ErrLimit))
	more, e := join.Append(l[:199], l[199])
	want(t, "the last record", all(more, e), all(l[:200], api.OK))
	want(t, "a record too many", all(join.Append(l[:200], api.Claim{})), all(none, api.ErrLimit))
	l[3].Id = 0
	want(t, "one of 202 records", all(join.Check(l)), all(3, api.ErrArg))
}

// TestCheck is E1 with registers by dice, accepted or not.
func TestCheck(t *testing.T) {
	d := newDice(3)
	seen := map[api.Errno]int{}
	for range 4000 {
		items := d.anyItems()
		var l []api.Claim
		day, at, e := 2, 0, api.OK
		for range 1 + d.IntN(25) {
			day = max(0, day+[]int{0, 0, 0, 1, 2, -1}[d.IntN(6)])
			x := d.anyClaim(items, l, day)
			err := join.CheckClaim(x)
			if err == api.OK {
				err = refused(l, x)
			}
			if err != api.OK && d.rarely(2) {
				continue
			}
			l = append(l, x)
			if err != api.OK {
				at, e = len(l)-1, err
				break
			}
		}
		seen[e]++
		if i, err := join.Check(l); i != at || err != e {
			t.Fatalf("Check(%v): %d, error %d, want %d, error %d", l, i, err, at, e)
		}
		if n := len(l); n > 0 {
			more, err := join.Append(l[:n-1], l[n-1])
			if err != e || err == api.OK && !slices.Equal(more, l) || err != api.OK && len(more) > 0 {
				t.Fatalf("Append(%v): %v, error %d, want error %d", l, more, err, e)
			}
		}
	}
	for _, e := range []api.Errno{api.OK, api.ErrArg, api.ErrTwice, api.ErrTime, api.ErrNone} {
		if seen[e] < 50 {
			t.Errorf("error %d only %d times", e, seen[e])
		}
	}
}

// TestState is E2.
func TestState(t *testing.T) {
	l := sample(t, "25 5 drop 21", "26 6 void 25", "27 6 void 22", "28 7 confirm 21", "29 8 void 23", "30 8 drop 23").Claims
	for id, states := range map[int]string{21: "0122231222", 23: "0001222200", 22: "0000000000", 25: "0000000000", 27: "0000000000", 0: "0000000000", 99: "0000000000", -1: "0000000000"} {
		for day := range 10 {
			n, _ := strconv.Atoi(states[day : day+1])
			want(t, []int{id, day}, all(join.State(l, day, id)), all(uint8(n), api.OK))
		}
	}
	want(t, "a day before all", all(join.State(l, math.MinInt, 21)), all(uint8(0), api.OK))
	want(t, "a day behind all", all(join.State(l, math.MaxInt, 21)), all(uint8(2), api.OK))
	want(t, "an Id far out", all(join.State(l, 9, math.MaxInt)), all(uint8(0), api.OK))
	want(t, "no register", all(join.State(append(l, api.Claim{}), 9, 21)), all(uint8(0), api.ErrArg))
	// What is dropped stays so, whatever is confirmed later.
	m := records(t, "1 0 beside 1 2 0 1 0 1", "2 0 drop 1", "3 1 confirm 1", "4 2 void 2", "5 3 void 3")
	for day, state := range []uint8{3, 3, 2, 1} {
		want(t, day, all(join.State(m, day, 1)), all(state, api.OK))
	}
	// What is said of a claim that is voided does not bring it back.
	n := records(t, "1 0 below 1 2 0 1 0 1", "2 0 void 1", "3 0 confirm 1", "4 1 drop 1")
	for day := range 2 {
		want(t, day, all(join.State(n, day, 1)), all(uint8(0), api.OK))
	}
	seen := [4]int{}
	eachFiles(t, 400, func(f api.Files) {
		for _, day := range days(f) {
			w := worldOf(f, day)
			for id := range 63 {
				state := stateOf(f.Claims, day, id)
				seen[state]++
				want(t, w, all(join.State(f.Claims, day, id)), all(state, api.OK))
			}
		}
	})
	if slices.Min(seen[:]) < 200 {
		t.Errorf("states that came only so many times: %v", seen)
	}
}
