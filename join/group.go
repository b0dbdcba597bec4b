package join

import (
	"cmp"
	"iter"
	"slices"

	"conjoin/api"
	"conjoin/profile"
	"conjoin/sherd"
)

// CheckFiles returns what is wrong with files.
func CheckFiles(f api.Files) api.Errno {
	if e := profile.CheckTypes(f.Types); e != api.OK {
		return e
	}
	if _, e := sherd.Check(f.Items); e != api.OK {
		return e
	}
	_, e := Check(f.Claims)
	return e
}

// view is files that were checked, as known on a day.
type view struct {
	api.Files
	known  int
	sherds []api.Sherd       // by their Ids
	named  map[int]api.Sherd // the same ones
	glued  []api.Claim       // the claims that are glued, by their Ids
	first  map[int]int       // of each sherd, by their Ids, the first one of its group
}

// group is the sherds that joins lead together, and these joins.
type group struct {
	view
	members []api.Sherd
	joined  []api.Claim
}

// viewOf returns files as known on a day, or their error.
func viewOf(f api.Files, known int) (view, api.Errno) {
	if e := CheckFiles(f); e != api.OK {
		return view{}, e
	}
	return look(f, known), api.OK
}

// look returns files that were checked as known on a day, if some claims were glued besides.
func look(f api.Files, known int, besides ...api.Claim) view {
	v := view{Files: f, known: known, named: map[int]api.Sherd{}}
	v.sherds, _ = sherd.Sherds(f.Items, known)
	for _, s := range v.sherds {
		v.named[s.Id] = s
	}
	state := states(f.Claims, known)
	for _, x := range f.Claims {
		if state[x.Id] == api.ClaimGlued {
			v.glued = append(v.glued, x)
		}
	}
	v.glued = sorted(append(v.glued, besides...), func(x api.Claim) int { return x.Id })
	v.first = v.led()
	return v
}

// sorted sorts a list by a number that each element has.
func sorted[T any](list []T, number func(T) int) []T {
	slices.SortFunc(list, func(a, b T) int { return cmp.Compare(number(a), number(b)) })
	return list
}

// isJoin reports whether a claim, if it is glued, is a join. A sherd that is not known has no corners, beyond which every stretch goes.
func (v view) isJoin(x api.Claim) bool {
	return x.SideA.To <= v.named[x.A].Corners && x.SideB.To <= v.named[x.B].Corners
}

// joins yields the joins, by their Ids.
func (v view) joins() iter.Seq[api.Claim] {
	return func(yield func(api.Claim) bool) {
		for _, x := range v.glued {
			if v.isJoin(x) && !yield(x) {
				return
			}
		}
	}
}

// led returns for each sherd the first one of those that joins lead together with it.
func (v view) led() map[int]int {
	first := map[int]int{}
	for _, s := range v.sherds {
		first[s.Id] = s.Id
	}
	for x := range v.joins() {
		low, high := min(first[x.A], first[x.B]), max(first[x.A], first[x.B])
		for _, s := range v.sherds {
			if first[s.Id] == high {
				first[s.Id] = low
			}
		}
	}
	return first
}

// group returns the group of a sherd that is known.
func (v view) group(id int) group {
	g := group{view: v}
	for _, s := range v.sherds {
		if v.first[s.Id] == v.first[id] {
			g.members = append(g.members, s)
		}
	}
	for x := range v.joins() {
		if v.first[x.A] == v.first[id] {
			g.joined = append(g.joined, x)
		}
	}
	return g
}

// groups yields all groups, by their first sherds.
func (v view) groups() iter.Seq[group] {
	return func(yield func(group) bool) {
		for _, s := range v.sherds {
			if v.first[s.Id] == s.Id && !yield(v.group(s.Id)) {
				return
			}
		}
	}
}

func (v view) has(id int) bool {
	_, there := v.named[id]
	return there
}

// groupOf returns the group of a sherd on a day, or the error of the files, or of the sherd.
func groupOf(f api.Files, known, id int) (group, api.Errno) {
	v, e := viewOf(f, known)
	if e != api.OK {
		return group{}, e
	}
	if !v.has(id) {
		return group{}, api.ErrSherd
	}
	return v.group(id), api.OK
}

// ids returns the sherds of a group.
func (g group) ids() []int {
	return asked(g.members, func(id int) int { return id })
}

// asked returns what is said of each of some sherds, in their order.
func asked[T any](list []api.Sherd, of func(id int) T) []T {
	var answers []T
	for _, s := range list {
		answers = append(answers, of(s.Id))
	}
	return answers
}

// Joins returns the joins on a day.
func Joins(f api.Files, known int) ([]api.Claim, api.Errno) {
	v, e := viewOf(f, known)
	if e != api.OK {
		return nil, e
	}
	return slices.Collect(v.joins()), api.OK
}

// Idle returns the claims that are glued on a day and are no joins.
func Idle(f api.Files, known int) ([]int, api.Errno) {
	v, e := viewOf(f, known)
	if e != api.OK {
		return nil, e
	}
	var idle []int
	for _, x := range v.glued {
		if !v.isJoin(x) {
			idle = append(idle, x.Id)
		}
	}
	return idle, api.OK
}

// Groups returns all groups on a day.
func Groups(f api.Files, known int) ([][]int, api.Errno) {
	v, e := viewOf(f, known)
	if e != api.OK {
		return nil, e
	}
	var list [][]int
	for g := range v.groups() {
		list = append(list, g.ids())
	}
	return list, api.OK
}

// GroupOf returns the group of a sherd on a day.
func GroupOf(f api.Files, known, sherd int) ([]int, api.Errno) {
	g, e := groupOf(f, known, sherd)
	if e != api.OK {
		return nil, e
	}
	return g.ids(), api.OK
}

// longer returns files with one claim more at their end, or the error of the files, or of the claim.
func longer(f api.Files, x api.Claim) (api.Files, api.Errno) {
	if e := CheckFiles(f); e != api.OK {
		return api.Files{}, e
	}
	claims, e := Append(f.Claims, x)
	if e != api.OK {
		return api.Files{}, e
	}
	f.Claims = claims
	return f, api.OK
}

// Reached returns the sherds that have another group with a record more.
func Reached(f api.Files, x api.Claim) ([]int, api.Errno) {
	more, e := longer(f, x)
	if e != api.OK {
		return nil, e
	}
	before, after := look(f, x.Known), look(more, x.Known)
	var reached []int
	for _, s := range before.sherds {
		if !slices.Equal(before.group(s.Id).ids(), after.group(s.Id).ids()) {
			reached = append(reached, s.Id)
		}
	}
	return reached, api.OK
}
