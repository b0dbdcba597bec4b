package sure_test

import (
	"slices"
	"testing"

	"conjoin/api"
	"conjoin/oracle"
	"conjoin/sure"
)

func TestExamplesOfAnswers(t *testing.T) {
	c, u := limited(), unlimited()
	want(t, "together", all(sure.Answer(c, 0, 3)), all(api.SureTogether, api.OK))
	want(t, "together", all(sure.Answer(c, 1, 2)), all(api.SureTogether, api.OK))
	want(t, "apart", all(sure.Answer(c, 0, 1)), all(api.SureApart, api.OK))
	want(t, "open", all(sure.Answer(u, 0, 3)), all(api.SureOpen, api.OK))
	want(t, "apart", all(sure.Answer(u, 0, 2)), all(api.SureApart, api.OK))
	want(t, "itself", all(sure.Answer(u, 2, 2)), all(api.SureTogether, api.OK))
	want(t, "all", all(sure.Answers(c)), all([][]uint8{{1, 2, 2, 1}, {2, 1, 1, 2}, {2, 1, 1, 2}, {1, 2, 2, 1}}, api.OK))
	want(t, "certain", all(sure.Certain(c)), all([][]int{{0, 3}, {1, 2}}, api.OK))
	want(t, "alone", all(sure.Certain(u)), all([][]int{{0}, {1}, {2}, {3}}, api.OK))
	want(t, "open", all(sure.Open(u)), all([]api.Pair{{A: 0, B: 1}, {A: 0, B: 3}, {A: 1, B: 2}}, api.OK))
	want(t, "nothing open", all(sure.Open(c)), all([]api.Pair{}, api.OK))
	for limit := range 3 {
		none := api.Case{Ware: "bell", Limit: limit}
		want(t, "no answers", all(sure.Answers(none)), all([][]uint8{}, api.OK))
		want(t, "no pairs", all(sure.Open(none)), all([]api.Pair{}, api.OK))
		want(t, "no classes", all(sure.Certain(none)), all([][]int{}, api.OK))
	}
	one := row(8)
	one.Limit = 1
	want(t, "one vessel", all(sure.Certain(one)), all([][]int{{0, 1, 2, 3, 4, 5, 6, 7}}, api.OK))
}

// TestAnswers is S4, and P7.3, against the oracle.
func TestAnswers(t *testing.T) {
	many := map[uint8]int{}
	none := 0
	eachCase(t, 1500, 7, func(c api.Case) {
		v := oracle.Reassemblies(c)
		if len(v) == 0 {
			none++
			want(t, c, all(sure.Answers(c)), all([][]uint8{}, api.ErrWhole))
			want(t, c, all(sure.Open(c)), all([]api.Pair{}, api.ErrWhole))
			want(t, c, all(sure.Certain(c)), all([][]int{}, api.ErrWhole))
			return
		}
		answers := make([][]uint8, len(c.Parts))
		var open []api.Pair
		for a := range c.Parts {
			for b := range c.Parts {
				x := answerOf(c, a, b)
				want(t, all(c, a, b), all(sure.Answer(c, a, b)), all(x, api.OK))
				answers[a] = append(answers[a], x)
				if a < b {
					many[x]++
				}
				if a < b && x == api.SureOpen {
					open = append(open, api.Pair{A: a, B: b})
				}
			}
		}
		want(t, c, all(sure.Answers(c)), all(answers, api.OK))
		want(t, c, all(sure.Open(c)), all(open, api.OK))
	})
	if none < 50 || many[api.SureTogether] < 200 || many[api.SureApart] < 1000 || many[api.SureOpen] < 1000 {
		t.Errorf("%d times no reassembly, answers %v", none, many)
	}
}

// TestClasses is Certain of S4, and P7.4.
func TestClasses(t *testing.T) {
	large := 0
	eachCase(t, 600, 7, func(c api.Case) {
		classes, e := sure.Certain(c)
		if e == api.ErrWhole {
			return
		}
		answers, _ := sure.Answers(c)
		var right [][]int
		for a := range c.Parts {
			var class []int
			for b := range c.Parts {
				if answerOf(c, a, b) == api.SureTogether {
					class = append(class, b)
					want(t, all(c, a, b), all(answers[a]), all(answers[b]))
				}
			}
			if class[0] == a {
				right = append(right, class)
			}
			if len(class) > 2 {
				large++
			}
		}
		want(t, c, all(classes, e), all(right, api.OK))
		parts := slices.Concat(classes...)
		slices.Sort(parts)
		want(t, c, all(len(slices.Compact(parts))), all(len(c.Parts)))
	})
	if large < 50 {
		t.Errorf("only %d parts in classes of three", large)
	}
}
