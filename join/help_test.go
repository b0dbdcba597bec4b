package join_test

import (
	"fmt"
	"math/rand/v2"
	"slices"
	"strings"
	"testing"

	"conjoin/api"
	"conjoin/edge"
	"conjoin/join"
	"conjoin/oracle"
	"conjoin/profile"
	"conjoin/sherd"
)

// This file has an oracle: slow functions that say what is right as the chapter's words say it, without the package.

// jars is the source of the chapter's examples.
const jars = "type jar red 2 4\nrim r\nbase b\nafter r bs\nafter s bs\n"

// jarItems are the items of the chapter's examples.
func jarItems() []string {
	return []string{
		"1 0 sherd red 1 1 4", "2 0 sherd red 1 1 5 foot", "3 0 sherd red 1 1 4", "4 0 curve 1 r", "5 0 curve 2 bs",
		"11 0 colour 1 10 20", "12 0 colour 2 15 40", "13 0 colour 3 30 50",
	}
}

// jarClaims are the claims of the chapter's examples.
func jarClaims() []string {
	return []string{"21 1 below 1 2 0 1 2 3", "22 2 confirm 21", "23 3 beside 2 3 3 4 0 1", "24 4 confirm 23"}
}

// record is the record with a line.
func record(t *testing.T, line string) api.Claim {
	t.Helper()
	x, e := join.Read(line)
	if e != api.OK {
		t.Fatalf("Read(%q): error %d", line, e)
	}
	return x
}

// records are the records with some lines, which need not be a register.
func records(t *testing.T, lines ...string) []api.Claim {
	t.Helper()
	var l []api.Claim
	for _, line := range lines {
		l = append(l, record(t, line))
	}
	return l
}

// filesOf are files with a source of types, and with lines.
func filesOf(t *testing.T, src string, items []string, claims ...string) api.Files {
	t.Helper()
	types, fault := profile.ParseTypes(src)
	f := api.Files{Types: types, Claims: records(t, claims...)}
	for _, line := range items {
		x, e := sherd.Read(line)
		if e != api.OK {
			t.Fatalf("Read(%q): error %d", line, e)
		}
		f.Items = append(f.Items, x)
	}
	if e := join.CheckFiles(f); e != api.OK || fault.Err != api.OK {
		t.Fatalf("files of %q: error %d, %v", claims, e, fault)
	}
	return f
}

// sample are the files F of the chapter's examples, with more claims.
func sample(t *testing.T, more ...string) api.Files {
	t.Helper()
	return filesOf(t, jars, jarItems(), append(jarClaims(), more...)...)
}

// world is files as known on a day.
type world struct {
	api.Files
	day    int
	sherds []api.Sherd
	joins  []api.Claim
	idle   []int
}

// counts says whether a record of a register counts on a day.
func counts(l []api.Claim, day int, x api.Claim) bool {
	return x.Kind != 5 && x.Known <= day && !slices.ContainsFunc(l, func(y api.Claim) bool { return y.Kind == 5 && y.Known <= day && y.Of == x.Id })
}

// saidOf are the Ids of the records of a kind that count and name one.
func saidOf(l []api.Claim, day int, kind uint8, id int) []int {
	var ids []int
	for _, x := range l {
		if x.Kind == kind && x.Of == id && counts(l, day, x) {
			ids = append(ids, x.Id)
		}
	}
	return ids
}

// stateOf is the state of a claim.
func stateOf(l []api.Claim, day, id int) uint8 {
	for _, x := range l {
		if x.Id != id || x.Kind > 2 || !counts(l, day, x) {
			continue
		}
		switch {
		case len(saidOf(l, day, 4, id)) > 0:
			return 3
		case len(saidOf(l, day, 3, id)) > 0:
			return 2
		}
		return 1
	}
	return 0
}

// worldOf is what files are on a day, with some joins besides.
func worldOf(f api.Files, day int, besides ...api.Claim) world {
	w := world{Files: f, day: day}
	w.sherds, _ = sherd.Sherds(f.Items, day)
	for _, x := range f.Claims {
		if stateOf(f.Claims, day, x.Id) != 2 {
			continue
		}
		a, b := w.sherd(x.A), w.sherd(x.B)
		if a.Id == 0 || b.Id == 0 || x.SideA.To > a.Corners || x.SideB.To > b.Corners {
			w.idle = append(w.idle, x.Id)
		} else {
			w.joins = append(w.joins, x)
		}
	}
	slices.Sort(w.idle)
	w.joins = append(w.joins, besides...)
	slices.SortFunc(w.joins, func(x, y api.Claim) int { return x.Id - y.Id })
	return w
}

// sherd is a sherd that is known; a zero one if it is not.
func (w world) sherd(id int) api.Sherd {
	for _, s := range w.sherds {
		if s.Id == id {
			return s
		}
	}
	return api.Sherd{}
}

// group is who can be reached from a sherd by joins.
func (w world) group(id int) []int {
	in := map[int]bool{id: true}
	for range w.joins {
		for _, x := range w.joins {
			if in[x.A] || in[x.B] {
				in[x.A], in[x.B] = true, true
			}
		}
	}
	var g []int
	for _, s := range w.sherds {
		if in[s.Id] {
			g = append(g, s.Id)
		}
	}
	return g
}

func (w world) groups() [][]int {
	var l [][]int
	for _, s := range w.sherds {
		if g := w.group(s.Id); g[0] == s.Id {
			l = append(l, g)
		}
	}
	return l
}

// joinsOf are the joins of a group.
func (w world) joinsOf(g []int) []api.Claim {
	return slices.DeleteFunc(slices.Clone(w.joins), func(x api.Claim) bool { return !slices.Contains(g, x.A) })
}

// footOf is the first sherd of a group with a foot, 0 if there is none.
func (w world) footOf(g []int) int {
	for _, id := range g {
		if w.sherd(id).Foot {
			return id
		}
	}
	return 0
}

// heights go from a sherd to those that are joined with it, until all have one.
func (w world) heights(g []int) ([]int, bool) {
	h := map[int]int{g[0]: 0}
	for range g {
		for _, x := range w.joinsOf(g) {
			down := int(x.Kind) - 1
			if a, ok := h[x.A]; ok {
				h[x.B] = a + down
			} else if b, ok := h[x.B]; ok {
				h[x.A] = b - down
			}
		}
	}
	for _, x := range w.joinsOf(g) {
		if h[x.B]-h[x.A] != int(x.Kind)-1 {
			return nil, false
		}
	}
	least := 0
	for _, id := range g {
		least = min(least, h[id])
	}
	var l []int
	for _, id := range g {
		if foot := w.footOf(g); foot != 0 && h[id] > h[foot] {
			return nil, false
		}
		l = append(l, h[id]-least)
	}
	return l, true
}

// contradict says whether no heights keep to what some Ids of a group say.
func (w world) contradict(g []int, ids []int) bool {
	var bounds []api.Bound
	at := func(id int) int { return slices.Index(g, id) }
	for _, x := range w.joinsOf(g) {
		if slices.Contains(ids, x.Id) {
			down := int(x.Kind) - 1
			bounds = append(bounds, api.Bound{From: at(x.A), To: at(x.B), Most: down}, api.Bound{From: at(x.B), To: at(x.A), Most: -down})
		}
	}
	if foot := w.footOf(g); foot != 0 && slices.Contains(ids, foot) {
		for _, id := range g {
			bounds = append(bounds, api.Bound{From: at(foot), To: at(id)})
		}
	}
	_, ok := oracle.Differences(len(g), bounds)
	return !ok
}

// heightDoubt leaves out what is not needed, from the last Id to the first one.
func (w world) heightDoubt(g []int) ([]int, bool) {
	var ids []int
	for _, x := range w.joinsOf(g) {
		ids = append(ids, x.Id)
	}
	if foot := w.footOf(g); foot != 0 && len(g) > 1 {
		ids = append(ids, foot)
	}
	slices.Sort(ids)
	ids = slices.Compact(ids)
	if !w.contradict(g, ids) {
		return nil, false
	}
	for i := len(ids) - 1; i >= 0; i-- {
		if less := slices.Delete(slices.Clone(ids), i, i+1); w.contradict(g, less) {
			ids = less
		}
	}
	return ids, true
}

// rings are the letters at each height.
func (w world) rings(g []int, heights []int) []api.Ring {
	at := map[int][]string{}
	for i, id := range g {
		s, _ := sherd.Curves(w.Items, w.day, id)
		at[heights[i]] = append(at[heights[i]], s)
	}
	var r []api.Ring
	for h := range len(g) {
		set := ""
		for c := 'a'; c <= 'z'; c++ {
			if !slices.ContainsFunc(at[h], func(s string) bool { return !strings.ContainsRune(s, c) }) {
				set += string(c)
			}
		}
		if len(at[h]) > 0 {
			r = append(r, api.Ring{At: h, Set: set})
		}
	}
	return r
}

// sidesOf are the sides of a sherd that a join has.
func sidesOf(x api.Claim, id int) []int {
	var l []int
	for i := range 16 {
		if x.A == id && x.SideA.From <= i && i < x.SideA.To || x.B == id && x.SideB.From <= i && i < x.SideB.To {
			l = append(l, i)
		}
	}
	return l
}

// meets says whether a join has a placement.
func (w world) meets(x api.Claim) bool {
	a, _ := sherd.Outline(w.Items, w.day, x.A)
	b, _ := sherd.Outline(w.Items, w.day, x.B)
	_, ok, _ := edge.Place(a, b, api.Pairing{A: x.SideA, B: x.SideB})
	return ok
}

// twice are the first two joins of a group that have a side in common.
func (w world) twice(g []int) (int, int) {
	joins := w.joinsOf(g)
	for i, x := range joins {
		for _, y := range joins[i+1:] {
			for _, id := range g {
				for _, side := range sidesOf(x, id) {
					if slices.Contains(sidesOf(y, id), side) {
						return x.Id, y.Id
					}
				}
			}
		}
	}
	return 0, 0
}

// colours are the first sherds of a group whose colours do not go together.
func (w world) colours(g []int) (int, int) {
	for _, id := range g {
		if _, e := sherd.Colour(w.Items, w.day, id); e != api.OK {
			return id, 0
		}
	}
	for i, id := range g {
		for _, other := range g[i+1:] {
			a, _ := sherd.Colour(w.Items, w.day, id)
			b, _ := sherd.Colour(w.Items, w.day, other)
			if a.High < b.Low || b.High < a.Low {
				return id, other
			}
		}
	}
	return 0, 0
}

// feet are the first two sherds of a group with a foot.
func (w world) feet(g []int) (int, int) {
	feet := slices.DeleteFunc(slices.Clone(g), func(id int) bool { return !w.sherd(id).Foot })
	if len(feet) < 2 {
		return 0, 0
	}
	return feet[0], feet[1]
}

// wrong is the first thing that is wrong with a group.
func (w world) wrong(g []int) api.Wrong {
	if len(g) > 40 {
		return api.Wrong{Kind: 1}
	}
	for _, x := range w.joinsOf(g) {
		if w.sherd(x.A).Ware != w.sherd(x.B).Ware {
			return api.Wrong{Kind: 2, A: x.Id}
		}
	}
	for _, x := range w.joinsOf(g) {
		if !w.meets(x) {
			return api.Wrong{Kind: 3, A: x.Id}
		}
	}
	if a, b := w.twice(g); a != 0 {
		return api.Wrong{Kind: 4, A: a, B: b}
	}
	heights, ok := w.heights(g)
	if !ok {
		return api.Wrong{Kind: 5}
	}
	if a, b := w.colours(g); a != 0 {
		return api.Wrong{Kind: 6, A: a, B: b}
	}
	if a, b := w.feet(g); a != 0 {
		return api.Wrong{Kind: 7, A: a, B: b}
	}
	rings := w.rings(g, heights)
	for _, r := range rings {
		if r.Set == "" {
			return api.Wrong{Kind: 8, A: r.At}
		}
	}
	if _, ok, _ := profile.Complete(w.Types, w.sherd(g[0]).Ware, rings); !ok {
		return api.Wrong{Kind: 9}
	}
	return api.Wrong{}
}

// rests are the joins of a group, and what confirms them.
func (w world) rests(g []int) []int {
	var ids []int
	for _, x := range w.joinsOf(g) {
		ids = append(ids, x.Id)
		ids = append(ids, saidOf(w.Claims, w.day, 3, x.Id)...)
	}
	slices.Sort(ids)
	return ids
}

// part is the part of a sound group: its ends are those that no colour goes beyond.
func (w world) part(g []int) api.Part {
	p := api.Part{Sherds: g, Span: api.Span{Low: -1}, FootBy: w.footOf(g), Rests: w.rests(g)}
	p.Foot = p.FootBy != 0
	var spans []api.Span
	for _, id := range g {
		s, _ := sherd.Colour(w.Items, w.day, id)
		spans = append(spans, s)
	}
	for n := range 1001 {
		if !slices.ContainsFunc(spans, func(s api.Span) bool { return n < s.Low || n > s.High }) {
			if p.Span.Low < 0 {
				p.Span.Low = n
			}
			p.Span.High = n
		}
	}
	for _, s := range slices.Backward(spans) {
		if s.Low == p.Span.Low {
			p.Span.LowBy = s.LowBy
		}
		if s.High == p.Span.High {
			p.Span.HighBy = s.HighBy
		}
	}
	return p
}

// dice throws numbers that are the same in every run.
type dice struct{ *rand.Rand }

func newDice(seed uint64) dice { return dice{rand.New(rand.NewPCG(seed, 5))} }

func (d dice) oneOf(l ...string) string { return l[d.IntN(len(l))] }

// rarely is true once in so many times.
func (d dice) rarely(times int) bool { return d.IntN(times) == 0 }

// manyTypes are those of the files by dice. No type has the ware grey.
const manyTypes = jars + "type dish red 1 3\nrim a\nbase ab\nafter a abs\nafter s b\ntype pot blue 1 2\nrim abrs\nbase abrs\nafter a a\nafter b b\nafter r r\nafter s s\n"

// anySherd is a line of a sherd.
func (d dice) anySherd(id, day int) string {
	ware := "red"
	if d.rarely(12) {
		ware = d.oneOf("blue", "grey")
	}
	line := fmt.Sprintf("%d %d sherd %s %d 1 %d", id, day, ware, 1+d.IntN(2), 3+d.IntN(4))
	if d.rarely(6) {
		line += " foot"
	}
	return line
}

// anyMeasure is a line of a measurement of a sherd, of a void, or of a limit.
func (d dice) anyMeasure(id, day, sherd int) string {
	from := d.IntN(3)
	low := 10 * d.IntN(6)
	switch d.IntN(9) {
	case 0, 1:
		return fmt.Sprintf("%d %d colour %d %d %d", id, day, sherd, low, []int{20, 30, 50, 1000}[d.IntN(4)])
	case 2, 3:
		return fmt.Sprintf("%d %d curve %d %s", id, day, sherd, d.oneOf("rs", "bs", "bs", "brs", "abrs", "r", "ab", "b"))
	case 4, 5:
		low = 1 + d.IntN(9)
		return fmt.Sprintf("%d %d way %d %d %d %d %d", id, day, sherd, from, from+1, low, low+d.IntN(9))
	case 6:
		low = 10*d.IntN(9) - 40
		return fmt.Sprintf("%d %d turn %d %d %d %d %d", id, day, sherd, from, from+1, low, low+10*d.IntN(9))
	case 7:
		return fmt.Sprintf("%d %d void %d", id, day, 1+d.IntN(60))
	}
	return fmt.Sprintf("%d %d limit red %d", id, day, 1+d.IntN(9))
}

// anyItems has some sherds first, most of them of the day 0, and then what is measured of them.
func (d dice) anyItems() []api.Item {
	var l []api.Item
	add := func(line string) {
		x, _ := sherd.Read(line)
		if more, e := sherd.Append(l, x); e == api.OK {
			l = more
		}
	}
	ids := d.Perm(30)
	day := 0
	for i := range 2 + d.IntN(7) {
		add(d.anySherd(1+ids[i], day))
		if d.rarely(8) {
			day++
		}
	}
	n := len(l)
	for range d.IntN(30) {
		add(d.anyMeasure(1+d.IntN(60), day, l[d.IntN(n)].Id))
		if d.rarely(5) {
			day++
		}
	}
	if d.rarely(4) {
		add(fmt.Sprintf("%d %d void %d", 61, day, l[d.IntN(n)].Id))
	}
	return l
}

// stretch is mostly of one side.
func (d dice) stretch(corners, n int) api.Stretch {
	from := d.IntN(max(1, corners-n+1))
	return api.Stretch{From: from, To: from + n}
}

// anyClaim is about the sherds of a catalogue, or about some of the records there are.
func (d dice) anyClaim(items []api.Item, l []api.Claim, day int) api.Claim {
	x := api.Claim{Id: 1 + d.IntN(60), Known: day, Kind: []uint8{1, 1, 1, 2, 2, 3, 3, 3, 3, 3, 4, 5}[d.IntN(12)]}
	if x.Kind > 2 {
		x.Of = 1 + d.IntN(60)
		for i := range l {
			// The last one of its kind is the one that is most likely not to be named.
			if y := l[i]; y.Kind <= 2 == (x.Kind < 5) && d.IntN(4) > 0 {
				x.Of = y.Id
			}
		}
		return x
	}
	var sherds []api.Item
	for _, y := range items {
		if y.Kind == 1 {
			sherds = append(sherds, y)
		}
	}
	a, b := sherds[d.IntN(len(sherds))], sherds[d.IntN(len(sherds))]
	n := 1
	if d.rarely(6) {
		n++
	}
	x.A, x.B, x.SideA, x.SideB = a.Id, b.Id, d.stretch(a.Corners, n), d.stretch(b.Corners, n)
	if d.rarely(25) {
		x.B = 1 + d.IntN(60)
	}
	return x
}

// anyRegister has up to so many records, of which refused says that they are none of a register are left out.
func (d dice) anyRegister(items []api.Item, most int) []api.Claim {
	var l []api.Claim
	day := 0
	for range most {
		if x := d.anyClaim(items, l, day); join.CheckClaim(x) == api.OK && refused(l, x) == api.OK {
			l = append(l, x)
		}
		if d.rarely(3) {
			day++
		}
	}
	return l
}

// refused is the error of a record, well-formed, behind a register.
func refused(l []api.Claim, x api.Claim) api.Errno {
	if len(l) >= 200 {
		return api.ErrLimit
	}
	voided := func(id int) bool {
		return slices.ContainsFunc(l, func(y api.Claim) bool { return y.Kind == 5 && y.Of == id })
	}
	there, said := false, false
	for _, y := range l {
		if y.Id == x.Id {
			return api.ErrTwice
		}
		switch x.Kind {
		case 3, 4:
			there = there || y.Id == x.Of && y.Kind <= 2
			said = said || y.Kind == x.Kind && y.Of == x.Of && !voided(y.Id)
		case 5:
			there = there || y.Id == x.Of && y.Kind != 5
			said = said || y.Kind == 5 && y.Of == x.Of
		}
	}
	switch {
	case len(l) > 0 && x.Known < l[len(l)-1].Known:
		return api.ErrTime
	case x.Kind > 2 && !there:
		return api.ErrNone
	case said:
		return api.ErrTwice
	}
	return api.OK
}

func (d dice) anyFiles() api.Files {
	types, _ := profile.ParseTypes(manyTypes)
	items := d.anyItems()
	return api.Files{Types: types, Items: items, Claims: d.anyRegister(items, d.IntN(24))}
}

// eachFiles calls f with the examples and with many files by dice.
func eachFiles(t *testing.T, n int, f func(f api.Files)) {
	f(api.Files{})
	f(sample(t))
	d := newDice(1)
	for range n {
		f(d.anyFiles())
	}
}

// days are those on which something may be another one, and some around them.
func days(f api.Files) []int {
	ds := []int{-1, 0, 1 << 40}
	for _, x := range f.Items {
		ds = append(ds, x.Known)
	}
	for _, x := range f.Claims {
		ds = append(ds, x.Known)
	}
	slices.Sort(ds)
	return slices.Compact(ds)
}

// eachWorld calls f with many files on each of their days.
func eachWorld(t *testing.T, n int, f func(w world)) {
	eachFiles(t, n, func(files api.Files) {
		for _, day := range days(files) {
			f(worldOf(files, day))
		}
	})
}

// eachGroup calls f with each sherd of many files on each of their days, and its group.
func eachGroup(t *testing.T, n int, f func(w world, id int, g []int)) {
	eachWorld(t, n, func(w world) {
		for _, s := range w.sherds {
			f(w, s.Id, w.group(s.Id))
		}
	})
}

// String is a world as lines, for messages.
func (w world) String() string {
	var l []string
	for _, x := range w.Items {
		s, _ := sherd.Write(x)
		l = append(l, s)
	}
	for _, x := range w.Claims {
		s, _ := join.Write(x)
		l = append(l, s)
	}
	return fmt.Sprintf("%q on day %d", l, w.day)
}

// want holds results against what they should be; empty lists are alike.
func want(t *testing.T, what any, got, want []any) {
	t.Helper()
	if a, b := fmt.Sprintf("%+v", got), fmt.Sprintf("%+v", want); a != b {
		t.Errorf("%v: %s, want %s", what, a, b)
	}
}

func wantErr(t *testing.T, what string, got, want api.Errno) {
	t.Helper()
	if got != want {
		t.Errorf("%s: error %d, want %d", what, got, want)
	}
}

// all is several results as one list.
func all(x ...any) []any { return x }
