package join_test

import (
	"math"
	"slices"
	"testing"

	"conjoin/api"
	"conjoin/join"
	"conjoin/sherd"
)

// TestCheckFiles is CheckFiles of E4: the first error is that of the types, then that of the items, then that of the claims.
func TestCheckFiles(t *testing.T) {
	f := sample(t)
	wantErr(t, "files", join.CheckFiles(f), api.OK)
	wantErr(t, "no files", join.CheckFiles(api.Files{}), api.OK)
	f.Claims = append(f.Claims, record(t, "30 4 void 99"))
	wantErr(t, "a claim of none", join.CheckFiles(f), api.ErrNone)
	f.Items = append(f.Items, f.Items[0])
	wantErr(t, "an item twice", join.CheckFiles(f), api.ErrTwice)
	f.Types = make([]api.Type, 13)
	wantErr(t, "types too many", join.CheckFiles(f), api.ErrLimit)
}

// spoiltFiles are files each with an error, and this.
func spoiltFiles(t *testing.T) map[api.Errno]api.Files {
	t.Helper()
	types, items, claims := sample(t), sample(t), sample(t)
	types.Types = append(types.Types, make([]api.Type, 12)...)
	items.Items = append(items.Items, items.Items[0])
	claims.Claims = append(claims.Claims, record(t, "30 4 void 99"))
	// What is wrong behind the types is not looked at.
	types.Items, types.Claims, items.Claims = items.Items, claims.Claims, claims.Claims
	return map[api.Errno]api.Files{api.ErrLimit: types, api.ErrTwice: items, api.ErrNone: claims}
}

// errorsOf are the errors of all functions with files, asked of a sherd, or with a claim.
func errorsOf(f api.Files, day, id int, x api.Claim) map[string]api.Errno {
	m := map[string]api.Errno{}
	_, m["Joins"] = join.Joins(f, day)
	_, m["Idle"] = join.Idle(f, day)
	_, m["Groups"] = join.Groups(f, day)
	_, m["Parts"] = join.Parts(f, day, "red")
	_, m["GroupOf"] = join.GroupOf(f, day, id)
	_, m["Heights"] = join.Heights(f, day, id)
	_, _, m["HeightDoubt"] = join.HeightDoubt(f, day, id)
	_, m["Rings"] = join.Rings(f, day, id)
	_, m["Completed"] = join.Completed(f, day, id)
	_, m["Sound"] = join.Sound(f, day, id)
	_, m["Part"] = join.Part(f, day, id)
	_, m["Rests"] = join.Rests(f, day, id)
	_, m["Bare"] = join.Bare(f, day, id)
	_, m["Would"] = join.Would(f, x)
	_, m["Reached"] = join.Reached(f, x)
	return m
}

// TestFilesFirst is that the error of the files comes first, and then that of the sherd.
func TestFilesFirst(t *testing.T) {
	for want, f := range spoiltFiles(t) {
		for name, e := range errorsOf(f, 4, 99, api.Claim{}) {
			wantErr(t, name, e, want)
		}
	}
	without := []string{"Joins", "Idle", "Groups", "Parts", "Reached"}
	for _, id := range []int{0, -1, 4, 21, 99, math.MinInt, math.MaxInt} {
		for name, e := range errorsOf(sample(t), 4, id, record(t, "30 4 beside 1 999 0 1 0 1")) {
			if slices.Contains(without, name) {
				wantErr(t, name, e, api.OK)
			} else {
				wantErr(t, name, e, api.ErrSherd)
			}
		}
	}
	for name, e := range errorsOf(sample(t), -1, 1, record(t, "30 4 beside 1 3 1 2 2 3")) {
		if slices.Contains(without, name) || name == "Would" {
			wantErr(t, name, e, api.OK)
		} else {
			wantErr(t, name, e, api.ErrSherd)
		}
	}
}

// answers are what all functions say of files on a day.
func answers(f api.Files, day int) []any {
	l := all(all(join.Joins(f, day)), all(join.Idle(f, day)), all(join.Groups(f, day)))
	for _, ware := range []string{"red", "blue", "grey"} {
		l = append(l, all(join.Parts(f, day, ware)))
	}
	known, _ := sherd.Sherds(f.Items, day)
	for _, id := range asIds(known) {
		l = append(l, all(join.GroupOf(f, day, id)), all(join.Heights(f, day, id)), all(join.HeightDoubt(f, day, id)), all(join.Rings(f, day, id)))
		l = append(l, all(join.Completed(f, day, id)), all(join.Sound(f, day, id)), all(join.Part(f, day, id)), all(join.Rests(f, day, id)), all(join.Bare(f, day, id)))
	}
	return l
}

func asIds(list []api.Sherd) []int {
	ids := []int{0, 61}
	for _, s := range list {
		ids = append(ids, s.Id)
	}
	return ids
}

func TestExamplesOfGroups(t *testing.T) {
	f := sample(t)
	for day, groups := range map[int][][]int{-1: nil, 1: {{1}, {2}, {3}}, 2: {{1, 2}, {3}}, 3: {{1, 2}, {3}}, 4: {{1, 2, 3}}} {
		want(t, day, all(join.Groups(f, day)), all(groups, api.OK))
	}
	want(t, "the group of 3", all(join.GroupOf(f, math.MaxInt, 3)), all([]int{1, 2, 3}, api.OK))
	want(t, "the group of 3 before it is glued", all(join.GroupOf(f, 3, 3)), all([]int{3}, api.OK))
	want(t, "joins", all(join.Joins(f, 4)), all([]api.Claim{f.Claims[0], f.Claims[2]}, api.OK))
	want(t, "joins before all", all(join.Joins(f, -1)), all(none, api.OK))
	for line, reached := range map[string][]int{
		"25 5 void 22": {1, 2, 3}, "25 5 void 24": {1, 2, 3}, "25 5 void 23": {1, 2, 3}, "25 5 drop 21": {1, 2, 3}, "25 5 beside 1 3 1 2 1 2": nil, "25 5 below 1 3 0 1 0 1": nil,
		"25 4 drop 23": {1, 2, 3},
	} {
		want(t, line, all(join.Reached(f, record(t, line))), all(reached, api.OK))
	}
}

// TestOrder is that joins and groups are ordered by Ids, whatever the order of the records.
func TestOrder(t *testing.T) {
	items := []string{"9 0 sherd red 1 1 3", "7 0 sherd red 1 1 3", "8 0 sherd red 1 1 3", "3 0 sherd red 1 1 3", "5 0 sherd red 1 1 3"}
	f := filesOf(t, jars, items, "50 0 beside 9 7 0 1 0 1", "20 0 below 8 3 0 1 0 1", "40 0 beside 5 9 1 2 1 2", "60 1 confirm 40", "10 1 confirm 50", "30 1 confirm 20")
	want(t, "joins", all(join.Joins(f, 1)), all([]api.Claim{f.Claims[1], f.Claims[2], f.Claims[0]}, api.OK))
	want(t, "groups", all(join.Groups(f, 1)), all([][]int{{3, 8}, {5, 7, 9}}, api.OK))
	want(t, "rests", all(join.Rests(f, 1, 7)), all([]int{10, 40, 50, 60}, api.OK))
	want(t, "rests", all(join.Rests(f, 1, 8)), all([]int{20, 30}, api.OK))
	want(t, "nothing void", all(join.Idle(f, 1)), all([]int{}, api.OK))
	// A confirmation that unites two groups reaches all of both.
	g := filesOf(t, jars, items, "50 0 beside 9 7 0 1 0 1", "51 0 confirm 50", "40 0 beside 5 8 0 1 0 1", "41 0 confirm 40", "30 0 beside 7 8 1 2 1 2", "29 0 beside 9 7 2 3 2 3")
	want(t, "reached", all(join.Reached(g, record(t, "31 0 confirm 30"))), all([]int{5, 7, 8, 9}, api.OK))
	want(t, "reached", all(join.Reached(g, record(t, "31 0 confirm 29"))), all([]int{}, api.OK))
	want(t, "reached", all(join.Reached(g, record(t, "31 0 drop 40"))), all([]int{5, 8}, api.OK))
}

// TestIdle has claims that are glued and are no joins.
func TestIdle(t *testing.T) {
	items := []string{"1 0 sherd red 1 1 3", "2 0 sherd red 1 1 5", "3 4 sherd red 1 1 5", "4 4 colour 1 1 2", "5 9 void 2"}
	claims := []string{
		"30 0 beside 1 2 0 3 2 5", "29 0 beside 1 2 0 4 0 4", "28 0 below 2 1 1 3 2 4", "27 0 beside 1 4 0 1 0 1", "26 0 below 9 1 0 1 0 1", "25 0 beside 2 3 0 1 4 5", "24 0 beside 2 1 4 6 0 2",
		"40 1 confirm 30", "41 1 confirm 29", "42 1 confirm 28", "43 1 confirm 27", "44 1 confirm 26", "45 1 confirm 25", "46 1 confirm 24",
	}
	f := filesOf(t, jars, items, claims...)
	want(t, "idle", all(join.Idle(f, 0)), all([]int{}, api.OK))
	want(t, "idle", all(join.Idle(f, 3)), all([]int{24, 25, 26, 27, 28, 29}, api.OK))
	want(t, "idle once 3 is known", all(join.Idle(f, 4)), all([]int{24, 26, 27, 28, 29}, api.OK))
	want(t, "idle once 2 is withdrawn", all(join.Idle(f, 9)), all([]int{24, 25, 26, 27, 28, 29, 30}, api.OK))
	want(t, "joins", all(join.Joins(f, 4)), all([]api.Claim{f.Claims[5], f.Claims[0]}, api.OK))
	want(t, "groups", all(join.Groups(f, 3)), all([][]int{{1, 2}}, api.OK))
	want(t, "groups once 3 is known", all(join.Groups(f, 4)), all([][]int{{1, 2, 3}}, api.OK))
	want(t, "groups once 2 is withdrawn", all(join.Groups(f, 9)), all([][]int{{1}, {3}}, api.OK))
	want(t, "rests of what is not idle", all(join.Rests(f, 3, 1)), all([]int{30, 40}, api.OK))
}

// TestGroups is E4, E5 and P5.2, against the oracle.
func TestGroups(t *testing.T) {
	large, idle := 0, 0
	eachWorld(t, 400, func(w world) {
		want(t, w, all(join.Joins(w.Files, w.day)), all(w.joins, api.OK))
		want(t, w, all(join.Idle(w.Files, w.day)), all(w.idle, api.OK))
		want(t, w, all(join.Groups(w.Files, w.day)), all(w.groups(), api.OK))
		idle += len(w.idle)
		for _, s := range w.sherds {
			g := w.group(s.Id)
			want(t, w, all(join.GroupOf(w.Files, w.day, s.Id)), all(g, api.OK))
			if len(g) > 2 {
				large++
			}
		}
	})
	if large < 300 || idle < 100 {
		t.Errorf("%d sherds of groups of more than two, %d idle claims", large, idle)
	}
}

// TestPartition is P5.2: each known sherd is in just one group, the sherds of a join are in one, and without any join between two halves of a group it would be no group.
func TestPartition(t *testing.T) {
	eachWorld(t, 200, func(w world) {
		groups, _ := join.Groups(w.Files, w.day)
		joins, _ := join.Joins(w.Files, w.day)
		at := map[int]int{}
		n := 0
		for i, g := range groups {
			for _, id := range g {
				at[id] = i
				n++
			}
		}
		known, _ := sherd.Sherds(w.Items, w.day)
		for _, s := range known {
			if _, ok := at[s.Id]; !ok {
				t.Errorf("%v: the sherd %d is in no group", w, s.Id)
			}
		}
		if n != len(known) {
			t.Errorf("%v: %v", w, groups)
		}
		merged := len(known)
		root := map[int]int{}
		for _, x := range joins {
			if at[x.A] != at[x.B] {
				t.Errorf("%v: the join %d leads from a group to another one", w, x.Id)
			}
			a, b := x.A, x.B
			for root[a] != 0 {
				a = root[a]
			}
			for root[b] != 0 {
				b = root[b]
			}
			if a != b {
				root[a] = b
				merged--
			}
		}
		if merged != len(groups) {
			t.Errorf("%v: %d groups, but joins leave %d", w, len(groups), merged)
		}
	})
}

// until are the records that are known on a day.
func until(f api.Files, day int) api.Files {
	return api.Files{
		Types:  f.Types,
		Items:  slices.DeleteFunc(slices.Clone(f.Items), func(x api.Item) bool { return x.Known > day }),
		Claims: slices.DeleteFunc(slices.Clone(f.Claims), func(x api.Claim) bool { return x.Known > day }),
	}
}

// less are files without a record, and without all that names it, or names what does.
func less(f api.Files, id int) api.Files {
	gone := map[int]bool{id: true}
	var l []api.Claim
	for _, x := range f.Claims {
		if gone[x.Id] || gone[x.Of] {
			gone[x.Id] = true
		} else {
			l = append(l, x)
		}
	}
	f.Claims = l
	return f
}

// TestKnowledge is P5.5.
func TestKnowledge(t *testing.T) {
	later, voided := 0, 0
	eachFiles(t, 120, func(f api.Files) {
		for _, day := range days(f) {
			now := until(f, day)
			if len(now.Claims) < len(f.Claims) {
				later++
			}
			want(t, worldOf(f, day), answers(now, day), answers(f, day))
		}
		for _, x := range f.Claims {
			if x.Kind == 5 {
				voided++
				want(t, worldOf(f, x.Known), answers(less(f, x.Of), x.Known), answers(f, x.Known))
				want(t, worldOf(f, 1<<40), answers(less(f, x.Of), 1<<40), answers(f, 1<<40))
			}
		}
	})
	if later < 100 || voided < 50 {
		t.Errorf("%d views of what is not all, %d voided", later, voided)
	}
}

// TestReached is Reached of E11, and what P5.7 says of it.
func TestReached(t *testing.T) {
	d := newDice(4)
	reached, errors, proposed := 0, 0, 0
	eachFiles(t, 1500, func(f api.Files) {
		if len(f.Items) == 0 {
			return
		}
		day := 3
		if n := len(f.Claims); n > 0 {
			day = f.Claims[n-1].Known
		}
		x := d.anyClaim(f.Items, f.Claims, day)
		claims, e := join.Append(f.Claims, x)
		if e != api.OK {
			errors++
			want(t, x, all(join.Reached(f, x)), all([]int{}, e))
			return
		}
		before, after := worldOf(f, day), worldOf(api.Files{Types: f.Types, Items: f.Items, Claims: claims}, day)
		var ids []int
		for _, s := range before.sherds {
			if !slices.Equal(before.group(s.Id), after.group(s.Id)) {
				ids = append(ids, s.Id)
				reached++
			}
		}
		want(t, x, all(join.Reached(f, x)), all(ids, api.OK))
		if x.Kind <= 2 {
			proposed++
			want(t, x, all(ids), all([]int{}))
		}
	})
	if reached < 200 || errors < 100 || proposed < 100 {
		t.Errorf("%d sherds reached, %d errors, %d claims", reached, errors, proposed)
	}
}
