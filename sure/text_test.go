package sure_test

import (
	"math"
	"slices"
	"strings"
	"testing"

	"conjoin/api"
	"conjoin/sure"
)

func TestExamplesOfTexts(t *testing.T) {
	all4 := []api.Branch{{Kind: api.BranchSplit, A: 2, B: 1}, {Kind: api.LeafClash, B: 7}, {Kind: api.LeafApart, A: 1, B: 1}, {Kind: api.LeafMany, Many: []int{3, 0, 0}}}
	for s, r := range map[string][]api.Branch{
		"":                  nil,
		"2/1 0=7 1#1 3+0+0": all4,
		"0+1+2+3+4+5+6+7":   {{Kind: api.LeafMany, Many: []int{0, 1, 2, 3, 4, 5, 6, 7}}},
		"7+7":               {{Kind: api.LeafMany, Many: []int{7, 7}}},
		"0/0":               {{Kind: api.BranchSplit}},
	} {
		want(t, s, all(sure.WriteRefute(r)), all(s, api.OK))
		want(t, s, all(sure.ReadRefute(s)), all(r, api.OK))
	}
	for _, s := range []string{
		" ", "0", "0/", "/0", "/", "0/8", "8/0", "0/0/0", "0=1=2", "0#1#2", "0 1", "01", "0/1 ", " 0/1", "0/1  0/1", "0/1\n", "0/1\t0/1", "00/1", "0/01", "+0", "0+", "0+1+", "+0+1", "0++1",
		"0+1=2", "0=1+2", "0+1+2+3+4+5+6+7+0", "0+8", "a/b", "0-1", "0/-1", "-1/0", "0?1", "0 /1", "0\x001", "\xff/0", "0\xff0", "0/\xff", "０/1", "0/1,0/1", "0=1 x", "9+0+1", "0/1 0", "/+=",
	} {
		want(t, s, all(sure.ReadRefute(s)), all([]api.Branch{}, api.ErrForm))
	}
}

// TestWriteErrors is what WriteRefute refuses.
func TestWriteErrors(t *testing.T) {
	good := api.Branch{Kind: api.LeafClash, A: 3, B: 7}
	for _, b := range []api.Branch{
		{}, {Kind: 5}, {Kind: 255, A: 1}, {Kind: 0, Many: []int{0, 1}}, {Kind: 5, Many: []int{0, 1}},
		{Kind: api.BranchSplit, A: 8}, {Kind: api.BranchSplit, B: 8}, {Kind: api.LeafClash, A: -1}, {Kind: api.LeafClash, B: -1}, {Kind: api.LeafApart, A: math.MaxInt}, {Kind: api.LeafApart, B: math.MinInt},
		{Kind: api.BranchSplit, Many: []int{0}}, {Kind: api.LeafClash, Many: []int{0, 1}}, {Kind: api.LeafApart, B: 1, Many: []int{0, 1}},
		{Kind: api.LeafMany}, {Kind: api.LeafMany, Many: []int{1}}, {Kind: api.LeafMany, Many: make([]int, 9)}, {Kind: api.LeafMany, Many: []int{0, 8}}, {Kind: api.LeafMany, Many: []int{-1, 0}},
		{Kind: api.LeafMany, A: 1, Many: []int{0, 1}}, {Kind: api.LeafMany, B: 1, Many: []int{0, 1}}, {Kind: api.LeafMany, A: -1, Many: []int{0, 1}}, {Kind: api.LeafMany, Many: []int{0, math.MinInt}},
		{Kind: api.LeafMany, Many: make([]int, 100000)},
	} {
		for _, r := range [][]api.Branch{{b}, {good, b}, {b, good}} {
			want(t, r, all(sure.WriteRefute(r)), all("", api.ErrArg))
		}
	}
	many := slices.Repeat([]api.Branch{good}, 20001)
	s, e := sure.WriteRefute(many[:20000])
	want(t, "20000 branches", all(s, e), all(strings.Repeat("3=7 ", 19999)+"3=7", api.OK))
	want(t, "20001 branches", all(sure.WriteRefute(many)), all("", api.ErrLimit))
	many[0] = api.Branch{}
	want(t, "20001 that are none", all(sure.WriteRefute(many)), all("", api.ErrLimit))
	r, e := sure.ReadRefute(s)
	want(t, "20000 words", all(len(r), r[19999], e), all(20000, good, api.OK))
	for _, tail := range []string{" 3=7", " ", " 3=7 3=7", "=7"} {
		want(t, "more than 20000 words", all(sure.ReadRefute(s+tail)), all([]api.Branch{}, api.ErrForm))
	}
}

// TestTexts is P7.9, with any branches.
func TestTexts(t *testing.T) {
	d := newDice(41)
	for range 2000 {
		var r []api.Branch
		for range d.IntN(6) {
			r = append(r, d.anyBranch())
		}
		s, e := sure.WriteRefute(r)
		want(t, r, all(e), all(api.OK))
		want(t, s, all(sure.ReadRefute(s)), all(r, api.OK))
	}
}

// TestStrings is P7.9, with all short strings of some bytes: what can be read is written again.
func TestStrings(t *testing.T) {
	signs := "07 /=#+8x"
	read := 0
	list := []string{""}
	for range 5 {
		var longer []string
		for _, s := range list {
			for i := range len(signs) {
				longer = append(longer, s+signs[i:i+1])
			}
		}
		for _, s := range longer {
			r, e := sure.ReadRefute(s)
			if e != api.OK {
				want(t, s, all(r, e), all([]api.Branch{}, api.ErrForm))
				continue
			}
			read++
			want(t, s, all(sure.WriteRefute(r)), all(s, api.OK))
		}
		list = longer
	}
	// Two digits with one of four signs between, or three with two pluses.
	if read != 16+8 {
		t.Errorf("%d strings were read", read)
	}
}
