package rules

import (
	"math"
	"reflect"

	"conjoin/api"
	"conjoin/edge"
	"conjoin/gauge"
	"conjoin/join"
	"conjoin/probe"
	"conjoin/profile"
	"conjoin/sherd"
	"conjoin/stratum"
	"conjoin/sure"
	"conjoin/whole"
)

// faces are the packages that are built.
func faces() []face {
	return []face{gaugeFace(), sherdFace(), edgeFace(), profileFace(), joinFace(), wholeFace(), sureFace(), stratumFace(), probeFace()}
}

func gaugeFace() face {
	return face{
		name: "gauge",
		calls: map[string]any{
			"CheckSystem": gauge.CheckSystem, "Keeps": gauge.Keeps, "Breaks": gauge.Breaks, "With": gauge.With,
			"Without": gauge.Without, "Only": gauge.Only, "Ids": gauge.Ids, "Beside": gauge.Beside, "Tie": gauge.Tie,
			"Solve": gauge.Solve, "Circle": gauge.Circle, "CheckCircle": gauge.CheckCircle, "Greatest": gauge.Greatest,
			"Least": gauge.Least, "Path": gauge.Path, "CheckPath": gauge.CheckPath, "Attain": gauge.Attain,
			"Fixed": gauge.Fixed, "Rigid": gauge.Rigid, "Rests": gauge.Rests, "Doubt": gauge.Doubt, "Changed": gauge.Changed,
		},
		some:  someOfGauge,
		first: func(args []reflect.Value) api.Errno { return gauge.CheckSystem(args[0].Interface().(api.System)) },
	}
}

func system(points int, bounds ...api.Bound) api.System {
	if len(bounds) > 0 {
		bounds = roomy(bounds...)
	}
	return api.System{Points: points, Bounds: bounds}
}

func bound(from, to, most, by int) api.Bound {
	return api.Bound{From: from, To: to, Most: most, By: by}
}

func someOfGauge(of reflect.Type) []any {
	worst := bound(math.MinInt, math.MaxInt, math.MinInt, math.MaxInt)
	three := []api.Bound{bound(0, 1, 5, 7), bound(1, 0, -2, 8), bound(1, 2, 4, 9), bound(2, 1, -4, 9)}
	switch reflect.Zero(of).Interface().(type) {
	case int:
		return anyInts()
	case bool:
		return []any{false, true}
	case []int:
		return []any{[]int(nil), roomy(0, 2), roomy(0, 3, 7), roomy(7, 9, 0, 7), roomy(math.MinInt, math.MaxInt, -1)}
	case api.Bound:
		return []any{bound(0, 1, 3, 6), bound(1, 0, -6, 5), bound(1, 1, 0, 0), worst}
	}
	full := api.System{Points: api.MaxPoints}
	for i := range api.MaxBounds {
		from := i % api.MaxPoints
		full.Bounds = append(full.Bounds, bound(from, (from+1+i/api.MaxPoints)%api.MaxPoints, 10, i+1))
	}
	return []any{
		system(3, three...), system(3, append(three, bound(1, 0, -6, 5))...), full, system(1), system(2), system(60), system(61), system(0),
		system(math.MinInt), system(math.MaxInt), system(2, worst), system(math.MaxInt, bound(-1, 1<<40, 0, 0)), system(2, make([]api.Bound, 401)...),
	}
}

func sherdFace() face {
	return face{
		name: "sherd",
		calls: map[string]any{
			"CheckItem": sherd.CheckItem, "Check": sherd.Check, "Append": sherd.Append, "Counting": sherd.Counting,
			"Sherds": sherd.Sherds, "SherdOf": sherd.SherdOf, "Wares": sherd.Wares, "LimitOf": sherd.LimitOf,
			"Outline": sherd.Outline, "Ways": sherd.Ways, "Turns": sherd.Turns, "Way": sherd.Way, "Turn": sherd.Turn,
			"Colour": sherd.Colour, "Curves": sherd.Curves, "Doubts": sherd.Doubts, "CheckDoubt": sherd.CheckDoubt,
			"Rests": sherd.Rests, "ColourRests": sherd.ColourRests, "Changed": sherd.Changed, "Reached": sherd.Reached,
			"Write": sherd.Write, "Read": sherd.Read,
		},
		some: someOfSherd,
		first: func(args []reflect.Value) api.Errno {
			l, ok := args[0].Interface().([]api.Item)
			if !ok {
				return api.OK
			}
			_, e := sherd.Check(l)
			return e
		},
		kept: []string{"Check"},
	}
}

// worstItem has fields that no kind allows.
func worstItem(kind uint8) api.Item {
	return api.Item{
		Id: math.MinInt, Known: math.MinInt, Kind: kind, Ware: "\xff\x00", Pit: math.MaxInt, Layer: math.MinInt, Corners: math.MaxInt, Foot: true,
		Sherd: math.MinInt, From: math.MinInt, To: math.MaxInt, Low: math.MinInt, High: math.MaxInt, Set: "\xff", Limit: math.MinInt, Of: math.MinInt,
	}
}

func items(lines ...string) []api.Item {
	list := roomy[api.Item]()
	for _, line := range lines {
		x, _ := sherd.Read(line)
		list = append(list, x)
	}
	return roomy(list...)
}

func someOfSherd(of reflect.Type) []any {
	worst := bound(math.MinInt, math.MaxInt, math.MinInt, math.MaxInt)
	lines := []string{
		"1 0 sherd bell 1 4 4 foot", "2 0 way 1 0 2 30 34", "3 1 way 1 1 2 10 12", "4 1 colour 1 300 500", "9 1 turn 1 0 2 -90 -80",
		"5 2 colour 1 450 600", "6 2 curve 1 bcd", "59 59 sherd cord 1 1 16", "7 59 way 1 0 1 25 40", "8 59 limit bell 2", "10 60 void 59",
	}
	doubtful := []string{"60 60 turn 1 0 2 80 90", "61 60 colour 1 0 10", "62 60 curve 1 e"}
	switch reflect.Zero(of).Interface().(type) {
	case int:
		return []any{0, 1, 2, 59, math.MaxInt, math.MinInt}
	case bool:
		return []any{false, true}
	case uint8:
		return []any{uint8(0), uint8(1), uint8(255)}
	case string:
		return []any{"", "bell", "1 0 sherd bell 1 4 4 foot", "1 0 turn 1 0 2 -9 9", "x", " ", "1 0 curve 1 \xff", "1 0 void 99999999999999999999", "1 0 nothing 1"}
	case api.Item:
		list := []any{api.Item{}}
		for _, x := range items("11 60 void 7", "11 60 curve 1 cd", "11 60 sherd a 1 1 3", "11 60 way 59 0 16 1 1", "1 0 sherd bell 1 4 4", "11 59 limit bell 1", "11 60 void 10") {
			list = append(list, x)
		}
		for _, kind := range []uint8{0, 1, 2, 3, 4, 5, 6, 7, 8, 255} {
			list = append(list, worstItem(kind))
		}
		return list
	case api.Doubt:
		return []any{
			api.Doubt{}, api.Doubt{Kind: api.DoubtWay, Ids: roomy(2, 3, 7)}, api.Doubt{Kind: api.DoubtWay, Ids: roomy(3, 2)}, api.Doubt{Kind: api.DoubtTurn, Ids: roomy(9, 60)},
			api.Doubt{Kind: api.DoubtColour, Ids: roomy(4, 61)}, api.Doubt{Kind: api.DoubtCurve, Ids: roomy(6, 62)}, api.Doubt{Kind: 255, Ids: roomy(math.MinInt, math.MaxInt)},
		}
	case api.Outline:
		return []any{
			api.Outline{}, api.Outline{Corners: 3, Ways: roomy(bound(0, 1, 2, 3)), Turns: roomy(bound(0, 1, 2, 3))},
			api.Outline{Corners: math.MaxInt, Ways: roomy(worst)}, api.Outline{Corners: math.MinInt, Turns: roomy(worst)}, api.Outline{Corners: 16, Turns: roomy(worst)},
		}
	}
	return []any{
		[]api.Item(nil), items(lines[:1]...), items(lines...), items(append(lines, doubtful...)...), items("1 0 sherd a 1 1 3", "1 0 sherd a 1 1 3"),
		roomy(api.Item{}), roomy(worstItem(2)), append(items(lines...), worstItem(7)), make([]api.Item, 301),
	}
}

func edgeFace() face {
	return face{
		name: "edge",
		calls: map[string]any{
			"CheckOutline": edge.CheckOutline, "CheckPairing": edge.CheckPairing, "With": edge.With, "Flaw": edge.Flaw,
			"CheckFlaw": edge.CheckFlaw, "Fit": edge.Fit, "Meets": edge.Meets, "Place": edge.Place, "CheckPlace": edge.CheckPlace,
			"Clash": edge.Clash, "CheckClash": edge.CheckClash, "Rests": edge.Rests, "Shared": edge.Shared, "Pairs": edge.Pairs,
			"Longest": edge.Longest, "Maximal": edge.Maximal, "Overlap": edge.Overlap, "Bare": edge.Bare, "Write": edge.Write, "Read": edge.Read,
		},
		some:  someOfEdge,
		first: firstOfEdge,
	}
}

// firstOfEdge is the error of the first outline that has one, and then that of the pairing.
func firstOfEdge(args []reflect.Value) api.Errno {
	var outlines []api.Outline
	for _, x := range args {
		switch y := x.Interface().(type) {
		case api.Outline:
			if e := edge.CheckOutline(y); e != api.OK {
				return e
			}
			outlines = append(outlines, y)
		case api.Pairing:
			if len(outlines) == 2 {
				return edge.CheckPairing(outlines[0], outlines[1], y)
			}
		}
	}
	return api.OK
}

func outline(corners int, ways, turns []api.Bound) api.Outline {
	return api.Outline{Corners: corners, Ways: roomy(ways...), Turns: roomy(turns...)}
}

func someOfEdge(of reflect.Type) []any {
	worst := bound(math.MinInt, math.MaxInt, math.MinInt, math.MaxInt)
	stretch := func(from, to int) api.Stretch { return api.Stretch{From: from, To: to} }
	far := stretch(math.MinInt, math.MaxInt)
	switch reflect.Zero(of).Interface().(type) {
	case int:
		return anyInts()
	case bool:
		return []any{false, true}
	case string:
		return []any{"", "0 1 1 2", "0 1 1 2 ", "x", "0 99999999999999999999 0 1", "\xff"}
	case api.Bound:
		return []any{bound(0, 1, 3, 6), bound(1, 0, -11, 5), bound(3, 0, 0, 0), worst}
	case api.Stretch:
		return []any{stretch(0, 1), stretch(1, 3), stretch(2, 1), far, stretch(math.MaxInt, math.MinInt)}
	case []api.Stretch:
		return []any{[]api.Stretch(nil), roomy(stretch(0, 1), stretch(1, 3)), roomy(far), make([]api.Stretch, 101)}
	case api.Pairing:
		return []any{
			api.Pairing{}, api.Pairing{A: stretch(0, 1), B: stretch(1, 2)}, api.Pairing{A: stretch(0, 2), B: stretch(0, 2)}, api.Pairing{A: stretch(0, 1), B: stretch(0, 1)},
			api.Pairing{A: stretch(0, 3), B: stretch(0, 2)}, api.Pairing{A: far, B: far}, api.Pairing{A: stretch(0, 16), B: stretch(0, 16)},
		}
	case api.Flaw:
		return []any{
			api.Flaw{}, api.Flaw{Circle: roomy(0, 5)}, api.Flaw{Circle: roomy(0, 1)}, api.Flaw{Turns: true, Circle: roomy(0, 2)},
			api.Flaw{Turns: true, Circle: roomy(math.MinInt, math.MaxInt)},
		}
	case api.Placement:
		return []any{
			api.Placement{}, api.Placement{A: roomy(0, 11, 31, 36), B: roomy(0, 20, 31, 40), DirA: roomy(0, 90, 190), DirB: roomy(0, -95, -115)},
			api.Placement{A: roomy(math.MinInt, math.MaxInt, 0, 0), B: roomy(0, 0, 0, math.MaxInt), DirA: roomy(0, math.MinInt, 0), DirB: roomy(math.MaxInt)},
		}
	}
	a := outline(3,
		[]api.Bound{bound(0, 1, 12, 1), bound(1, 0, -10, 1), bound(1, 2, 22, 2), bound(2, 1, -20, 2), bound(2, 3, 5, 3), bound(3, 2, -5, 3)},
		[]api.Bound{bound(0, 1, 100, 4), bound(1, 0, -90, 4), bound(1, 2, 140, 5), bound(2, 1, -100, 5)})
	b := outline(3,
		[]api.Bound{bound(0, 1, 25, 6), bound(1, 0, -20, 6), bound(1, 2, 15, 7), bound(2, 1, -11, 7), bound(2, 3, 9, 8), bound(3, 2, -9, 8)},
		[]api.Bound{bound(0, 1, -95, 9), bound(1, 0, 120, 9), bound(1, 2, -20, 10), bound(2, 1, 30, 10)})
	c := outline(3, []api.Bound{bound(0, 1, 12, 1)}, []api.Bound{bound(0, 1, 10, 4), bound(1, 0, -11, 5)})
	many := make([]api.Bound, 201)
	for i := range many {
		many[i] = bound(0, 1, 1000, 0)
	}
	return []any{
		a, b, c, api.Outline{Corners: 16}, outline(4, many, many), outline(3, []api.Bound{worst}, nil), outline(3, make([]api.Bound, 401), nil),
		outline(math.MaxInt, []api.Bound{bound(0, 1<<40, 0, 0)}, nil), outline(math.MinInt, nil, nil),
	}
}

func profileFace() face {
	return face{
		name: "profile",
		calls: map[string]any{
			"ParseTypes": profile.ParseTypes, "PrintTypes": profile.PrintTypes, "CheckTypes": profile.CheckTypes, "CheckRings": profile.CheckRings,
			"IsProfile": profile.IsProfile, "First": profile.First, "Many": profile.Many, "Letters": profile.Letters, "Dead": profile.Dead,
			"Overlap": profile.Overlap, "Wares": profile.Wares, "Complete": profile.Complete, "CheckFit": profile.CheckFit, "Blanks": profile.Blanks,
			"CheckBlanks": profile.CheckBlanks, "Shifts": profile.Shifts, "Choices": profile.Choices, "Ruled": profile.Ruled,
		},
		some:  someOfProfile,
		first: firstOfProfile,
	}
}

// firstOfProfile is the error of types, and then that of rings.
func firstOfProfile(args []reflect.Value) api.Errno {
	l, ok := args[0].Interface().([]api.Type)
	if !ok {
		return api.OK
	}
	e := profile.CheckTypes(l)
	for _, x := range args {
		if r, ok := x.Interface().([]api.Ring); ok && e == api.OK {
			return profile.CheckRings(r)
		}
	}
	return e
}

const vessels = "type jar bell 3 4\nrim ab\nbase d\nafter a c\nafter b ce\nafter c cd\ntype cup bell 2 3\nrim b\nbase cd\nafter b c\nafter c d\n"

func typesIn(src string) []api.Type {
	l, _ := profile.ParseTypes(src)
	return roomy(l...)
}

func someOfProfile(of reflect.Type) []any {
	ring := func(at int, set string) api.Ring { return api.Ring{At: at, Set: set} }
	switch reflect.Zero(of).Interface().(type) {
	case int:
		return anyInts()
	case string:
		return []any{"", "bell", "wine", "acd", "bcdddddddddddddd", "\xff", " ", vessels, "type x y 1 2\nrim a", "type x y 2 1\nrim a\nbase a", "rim a"}
	case []api.Ring:
		return []any{
			[]api.Ring(nil), roomy(ring(0, "c"), ring(1, "d")), roomy(ring(0, "a"), ring(3, "c")), roomy(ring(11, "z")), roomy(ring(1, "c"), ring(1, "c")),
			roomy(ring(math.MinInt, "\xff")), roomy(ring(math.MaxInt, "")), make([]api.Ring, 13),
		}
	case api.Fit:
		return []any{
			api.Fit{}, api.Fit{Shift: 1, Word: "acd"}, api.Fit{Word: "accd"}, api.Fit{Type: 1, Word: "bcd"}, api.Fit{Type: math.MinInt, Shift: math.MaxInt, Word: "\xff"},
			api.Fit{Type: math.MaxInt, Shift: math.MinInt}, api.Fit{Shift: math.MaxInt, Word: "accd"},
		}
	case []api.Blank:
		return []any{
			[]api.Blank(nil), roomy(api.Blank{Sets: roomy("a", "c", "cd", "c")}), roomy(api.Blank{Sets: roomy("a", "c", "\xff", "c")}), roomy(api.Blank{}),
			roomy(api.Blank{Type: math.MinInt, Shift: math.MaxInt, Sets: make([]string, 13)}), roomy(api.Blank{Sets: make([]string, 4)}, api.Blank{Sets: make([]string, 3)}),
		}
	}
	maze := api.Type{Name: "maze", Ware: "bell", Least: 1, Most: 12, Rim: "abcdefghijklmnopqrstuvwxy", Base: "z"}
	for i := range maze.After {
		maze.After[i] = maze.Rim
	}
	worst := api.Type{Name: "\xff", Ware: "", Least: math.MinInt, Most: math.MaxInt, Rim: "\x00", Base: "zz", After: [26]string{"\xff"}}
	return []any{
		[]api.Type(nil), typesIn(vessels), roomy(maze), roomy(append(typesIn(vessels), maze)...), roomy(append(typesIn(vessels), worst)...), roomy(maze, maze), roomy(api.Type{}), make([]api.Type, 13),
	}
}

func joinFace() face {
	return face{
		name: "join",
		calls: map[string]any{
			"CheckClaim": join.CheckClaim, "Check": join.Check, "Append": join.Append, "State": join.State, "Write": join.Write, "Read": join.Read,
			"CheckFiles": join.CheckFiles, "Joins": join.Joins, "Idle": join.Idle, "Groups": join.Groups, "GroupOf": join.GroupOf,
			"Heights": join.Heights, "HeightDoubt": join.HeightDoubt, "Rings": join.Rings, "Completed": join.Completed, "Sound": join.Sound,
			"Part": join.Part, "Parts": join.Parts, "Rests": join.Rests, "Bare": join.Bare, "Would": join.Would, "Reached": join.Reached,
		},
		some:  someOfJoin,
		first: firstOfJoin,
		kept:  []string{"Check"},
	}
}

// firstOfJoin is the error of files, or that of a register.
func firstOfJoin(args []reflect.Value) api.Errno {
	switch x := args[0].Interface().(type) {
	case api.Files:
		return join.CheckFiles(x)
	case []api.Claim:
		_, e := join.Check(x)
		return e
	}
	return api.OK
}

func claims(lines ...string) []api.Claim {
	list := roomy[api.Claim]()
	for _, line := range lines {
		x, _ := join.Read(line)
		list = append(list, x)
	}
	return roomy(list...)
}

// worstClaim has fields that no kind allows.
func worstClaim(kind uint8) api.Claim {
	far := api.Stretch{From: math.MinInt, To: math.MaxInt}
	return api.Claim{Id: math.MinInt, Known: math.MaxInt, Kind: kind, A: math.MinInt, B: math.MaxInt, SideA: far, SideB: far, Of: math.MinInt}
}

func someOfJoin(of reflect.Type) []any {
	lines := []string{"21 1 below 1 2 0 1 2 3", "22 2 confirm 21", "23 2 beside 2 59 3 4 0 1", "24 2 confirm 23", "25 2 beside 59 7 0 1 0 1", "26 2 confirm 25"}
	circle := append(lines, "27 59 below 2 1 0 1 2 3", "28 59 confirm 27", "29 59 drop 23")
	switch reflect.Zero(of).Interface().(type) {
	case int:
		return []any{0, 1, 2, 59, math.MaxInt, math.MinInt}
	case string:
		return []any{"", "red", "\xff", "21 1 below 1 2 0 1 2 3", "1 0 void 1", "1 0 beside 1 2 0 1", "1 0 \xff 1", "1 0 void 99999999999999999999", "1 0 below 1 2 0 1 0 1 0 1"}
	case api.Claim:
		list := []any{}
		for _, x := range claims("30 59 beside 1 2 1 2 1 2", "30 59 below 1 59 0 1 0 1", "30 59 beside 1 7 0 1 0 1", "30 59 void 22", "30 59 confirm 25", "20 59 beside 2 59 8 9 8 9", "30 0 drop 21") {
			list = append(list, x)
		}
		for kind := range uint8(7) {
			list = append(list, worstClaim(kind))
		}
		return list
	case []api.Claim:
		return []any{
			[]api.Claim(nil), claims(lines...), claims(circle...), claims("1 0 void 1"), roomy(worstClaim(1)), roomy(worstClaim(5)), make([]api.Claim, 201),
		}
	}
	types := typesIn("type jar red 2 4\nrim r\nbase b\nafter r bs\nafter s bs\n")
	found := items("1 0 sherd red 1 1 4", "2 0 sherd red 1 1 5 foot", "59 0 sherd red 1 1 4", "4 0 curve 1 r", "5 0 curve 2 bs", "11 0 colour 1 10 20", "12 59 colour 2 15 40", "13 59 way 1 0 1 1 4", "14 59 way 2 2 3 5 9")
	many := roomy[api.Item]()
	chain := roomy[api.Claim]()
	for i := range 45 {
		many = append(many, api.Item{Id: i + 1, Kind: api.ItemSherd, Ware: "red", Pit: 1, Layer: 1, Corners: 3})
		if i > 0 {
			chain = append(chain, api.Claim{Id: i, Kind: api.ClaimBelow, A: i, B: i + 1, SideA: api.Stretch{To: 1}, SideB: api.Stretch{From: 1, To: 2}}, api.Claim{Id: 100 + i, Kind: api.ClaimConfirm, Of: i})
		}
	}
	return []any{
		api.Files{}, api.Files{Types: types, Items: found}, api.Files{Types: types, Items: found, Claims: claims(lines...)}, api.Files{Types: types, Items: found, Claims: claims(circle...)},
		api.Files{Types: types, Items: many, Claims: chain}, api.Files{Claims: claims(lines...)}, api.Files{Types: roomy(api.Type{}), Items: found}, api.Files{Types: types, Items: roomy(worstItem(2))},
		api.Files{Types: types, Items: found, Claims: roomy(worstClaim(3))}, api.Files{Types: types, Items: found, Claims: append(claims(lines...), worstClaim(1))},
	}
}

func wholeFace() face {
	return face{
		name: "whole",
		calls: map[string]any{
			"CheckCase": whole.CheckCase, "Collect": whole.Collect, "Clash": whole.Clash, "Rivals": whole.Rivals, "Common": whole.Common, "One": whole.One,
			"Merge": whole.Merge, "Without": whole.Without, "Limited": whole.Limited, "Demand": whole.Demand, "Least": whole.Least,
			"Witness": whole.Witness, "CheckWitness": whole.CheckWitness, "Show": whole.Show, "CheckShow": whole.CheckShow, "Critical": whole.Critical,
			"Numbers": whole.Numbers, "Assign": whole.Assign, "CheckAssign": whole.CheckAssign, "Colours": whole.Colours,
			"Joint": whole.Joint, "Bar": whole.Bar, "CheckBar": whole.CheckBar,
		},
		some:  someOfWhole,
		first: firstOfWhole,
	}
}

// firstOfWhole is the error of a case, or that of files.
func firstOfWhole(args []reflect.Value) api.Errno {
	if c, ok := args[0].Interface().(api.Case); ok {
		return whole.CheckCase(c)
	}
	return join.CheckFiles(args[0].Interface().(api.Files))
}

// worstPart has fields that no part has.
func worstPart() api.Part {
	return api.Part{
		Sherds: roomy(math.MinInt, math.MaxInt), Span: api.Span{Low: math.MinInt, High: math.MaxInt, LowBy: math.MinInt, HighBy: math.MaxInt},
		FootBy: math.MinInt, Rests: roomy(math.MaxInt, math.MinInt),
	}
}

func someOfWhole(of reflect.Type) []any {
	piece := func(sherd, low, high int, foot bool, rests ...int) api.Part {
		return api.Part{Sherds: roomy(sherd, sherd+500), Span: api.Span{Low: low, High: high}, Foot: foot, Rests: roomy(rests...)}
	}
	four := roomy(piece(101, 10, 20, true, 3, 4), piece(102, 15, 30, false), piece(103, 25, 40, true, 4, 9), piece(104, 12, 14, false, 3))
	switch reflect.Zero(of).Interface().(type) {
	case int:
		return anyInts()
	case []int:
		return []any{[]int(nil), roomy(0), roomy(0, 2), roomy(0, 1, 1, 0), roomy(0, 1, 2), roomy(3, 3, 0), roomy(math.MinInt, math.MaxInt, -1, 40)}
	case api.Range:
		return []any{api.Range{}, api.Range{Low: 10, High: 40}, api.Range{Low: math.MinInt, High: math.MaxInt}, api.Range{Low: math.MaxInt, High: math.MinInt}}
	case []api.Range:
		return []any{
			[]api.Range(nil), roomy(api.Range{Low: 10, High: 20}, api.Range{Low: 21, High: 1000}), roomy(api.Range{Low: 5, High: 5}, api.Range{Low: 5, High: 40}),
			roomy(api.Range{High: math.MaxInt}, api.Range{Low: math.MinInt}), roomy(api.Range{Low: math.MinInt, High: math.MaxInt}),
		}
	case api.Case:
		full := roomy[api.Part]()
		for i := range api.MaxCase {
			full = append(full, piece(i+1, 20*i, 20*i+30, i%2 == 0, i+1, i+2))
		}
		return []any{
			api.Case{}, api.Case{Ware: "bell"}, api.Case{Ware: "bell", Limit: 2, By: 59, Parts: four}, api.Case{Ware: "bell", Parts: four}, api.Case{Ware: "bell", Limit: 1, Parts: four},
			api.Case{Ware: "bell", Limit: 40, Parts: full}, api.Case{Ware: "bell", Parts: append(four[:4:4], worstPart())}, api.Case{Ware: "bell", Limit: math.MinInt, By: math.MaxInt},
			api.Case{Ware: "\xff", Parts: make([]api.Part, 41)},
		}
	}
	return someOfJoin(of)
}

func sureFace() face {
	return face{
		name: "sure",
		calls: map[string]any{
			"CheckCase": sure.CheckCase, "Clash": sure.Clash, "Fits": sure.Fits, "First": sure.First, "Count": sure.Count, "With": sure.With,
			"Answer": sure.Answer, "Answers": sure.Answers, "Open": sure.Open, "Certain": sure.Certain, "Refute": sure.Refute,
			"CheckRefute": sure.CheckRefute, "None": sure.None, "CheckNone": sure.CheckNone, "Uses": sure.Uses, "Without": sure.Without, "Only": sure.Only,
			"Lineage": sure.Lineage, "Narrow": sure.Narrow, "Reached": sure.Reached, "WriteRefute": sure.WriteRefute, "ReadRefute": sure.ReadRefute,
		},
		some:  someOfSure,
		first: firstOfSure,
	}
}

// firstOfSure is the error of the first case that has one.
func firstOfSure(args []reflect.Value) api.Errno {
	for _, x := range args {
		if c, ok := x.Interface().(api.Case); ok {
			if e := sure.CheckCase(c); e != api.OK {
				return e
			}
		}
	}
	return api.OK
}

func someOfSure(of reflect.Type) []any {
	refutation := func(s string) []api.Branch {
		r, _ := sure.ReadRefute(s)
		return roomy(r...)
	}
	worst := api.Branch{Kind: api.LeafMany, A: math.MinInt, B: math.MaxInt, Many: roomy(math.MinInt, math.MaxInt)}
	switch reflect.Zero(of).Interface().(type) {
	case int:
		return []any{0, 1, 2, 59, math.MaxInt, math.MinInt}
	case bool:
		return []any{false, true}
	case string:
		return []any{"", "0+2+3", "2/1 0=2 1+2+3", "1#1", "0/8", "0+", " ", "\xff", "0/1/2"}
	case []api.Branch:
		list := []any{[]api.Branch(nil), roomy(worst), append(refutation("2/1"), worst), roomy(api.Branch{})}
		for _, s := range []string{"0+2+3", "2/1 0=2 1+2+3", "1#1", "0=2", "0/1", "0+2"} {
			list = append(list, refutation(s))
		}
		return list
	case api.Case:
		full := roomy[api.Part]()
		for i := range api.MaxParts {
			full = append(full, api.Part{Sherds: roomy(i + 1), Span: api.Span{Low: 20 * i, High: 20*i + 30, HighBy: 59}, Foot: i%4 == 0, Rests: roomy(i + 1)})
		}
		list := []any{api.Case{Ware: "bell", Limit: 5, Parts: full}, api.Case{Ware: "bell", Limit: 1, By: 59, Parts: full[:2:2]}, api.Case{Ware: "bell", Parts: make([]api.Part, 9)}}
		return append(list, someOfWhole(of)...)
	}
	return someOfWhole(of)
}

func stratumFace() face {
	return face{
		name: "stratum",
		calls: map[string]any{
			"CheckTrace": stratum.CheckTrace, "Check": stratum.Check, "Append": stratum.Append, "Counting": stratum.Counting, "CheckBonds": stratum.CheckBonds,
			"Places": stratum.Places, "Movable": stratum.Movable, "Links": stratum.Links, "Dates": stratum.Dates, "CheckDates": stratum.CheckDates,
			"Conflict": stratum.Conflict, "CheckConflict": stratum.CheckConflict, "Between": stratum.Between, "Path": stratum.Path,
			"Cheapest": stratum.Cheapest, "Sets": stratum.Sets, "Proof": stratum.Proof, "CheckProof": stratum.CheckProof, "Earlier": stratum.Earlier,
			"Ids": stratum.Ids, "Reached": stratum.Reached, "Write": stratum.Write, "Read": stratum.Read,
		},
		some:  someOfStratum,
		first: firstOfStratum,
		kept:  []string{"Check"},
	}
}

// firstOfStratum is the error of a log, and then, but for Reached, that of bonds.
func firstOfStratum(args []reflect.Value) api.Errno {
	l, ok := args[0].Interface().([]api.Trace)
	if !ok {
		return api.OK
	}
	_, e := stratum.Check(l)
	for _, x := range args {
		switch y := x.Interface().(type) {
		case api.Trace:
			return e
		case []api.Bond:
			if e == api.OK {
				return stratum.CheckBonds(y)
			}
		}
	}
	return e
}

func traces(lines ...string) []api.Trace {
	list := roomy[api.Trace]()
	for _, line := range lines {
		x, _ := stratum.Read(line)
		list = append(list, x)
	}
	return roomy(list...)
}

// worstTrace has fields that no kind allows.
func worstTrace(kind uint8) api.Trace {
	return api.Trace{
		Id: math.MinInt, Known: math.MaxInt, Kind: kind, Pit: math.MinInt, Layer: math.MaxInt, Lower: math.MinInt,
		Low: math.MinInt, High: math.MaxInt, Cost: math.MinInt, Of: math.MaxInt,
	}
}

func someOfStratum(of reflect.Type) []any {
	at := func(pit, layer int) api.Place { return api.Place{Pit: pit, Layer: layer} }
	far := at(math.MinInt, math.MaxInt)
	lines := []string{"1 0 above 1 1 2", "2 0 above 1 2 3", "3 0 dated 1 3 100 120", "4 1 dated 2 1 90 95", "5 2 moved 1 1 5", "6 2 moved 2 1 3"}
	joined := api.Bond{A: at(1, 1), B: at(2, 1), By: 40}
	link := func(from, to api.Place, most, by int) api.Link {
		return api.Link{From: from, To: to, Most: most, By: by}
	}
	circle := func() []api.Link {
		return roomy(link(at(1, 1), at(1, 2), -1, 1), link(at(1, 2), at(1, 3), -1, 2), link(at(1, 3), at(0, 0), -100, 3), link(at(0, 0), at(2, 1), 95, 4), link(at(2, 1), at(1, 1), 0, 40))
	}
	worst := link(far, far, math.MinInt, math.MaxInt)
	switch reflect.Zero(of).Interface().(type) {
	case int:
		return []any{1, 2, 3, math.MaxInt, math.MinInt}
	case string:
		return []any{"", "1 0 above 1 1 2", "1 0 dated 1 1 -5 5", "x", " ", "1 0 moved 1 1 \xff", "1 0 void 99999999999999999999", "1 0 nothing 1"}
	case api.Place:
		return []any{at(0, 0), at(1, 1), at(2, 1), at(1, 9), far}
	case []api.Place:
		return []any{[]api.Place(nil), roomy(at(1, 1)), roomy(at(1, 1), at(2, 1)), roomy(at(2, 1), at(1, 1)), roomy(far, at(1, 1))}
	case []api.Bond:
		return []any{[]api.Bond(nil), roomy(joined), roomy(joined, api.Bond{A: far, B: far, By: math.MinInt}), make([]api.Bond, 61)}
	case []api.Dating:
		d := roomy(api.Dating{Place: at(1, 1), Year: 102}, api.Dating{Place: at(1, 2), Year: 101}, api.Dating{Place: at(1, 3), Year: 100}, api.Dating{Place: at(2, 1), Year: 90})
		return []any{[]api.Dating(nil), d, roomy(append(d[:3:3], api.Dating{Place: at(2, 1), Year: math.MaxInt})...), roomy(api.Dating{Place: far, Year: math.MinInt})}
	case []api.Link:
		return []any{[]api.Link(nil), circle(), circle()[1:], roomy(worst), roomy(worst, worst), roomy(append(circle(), worst)...)}
	case []api.Cut:
		cut := api.Cut{Circle: circle()}
		return []any{
			[]api.Cut(nil), roomy(cut, api.Cut{}, api.Cut{}), roomy(cut), roomy(api.Cut{}), roomy(api.Cut{}, cut), roomy(api.Cut{Circle: roomy(worst, worst)}),
		}
	case api.Trace:
		list := []any{}
		for _, x := range traces("7 2 void 6", "7 2 void 9", "7 3 above 1 3 1", "7 2 dated 2 1 101 105", "7 2 moved 1 2 4", "6 2 void 5", "7 1 dated 1 1 5 6", "x") {
			list = append(list, x)
		}
		for kind := range uint8(6) {
			list = append(list, worstTrace(kind))
		}
		return list
	}
	wide := roomy[api.Trace]()
	for i := range 51 {
		wide = append(wide, api.Trace{Id: i + 100, Kind: api.TraceDated, Pit: 3 + i/50, Layer: 1 + i%50})
	}
	return []any{
		[]api.Trace(nil), traces(lines...), traces(append(lines, "7 2 void 6", "8 2 above 1 3 1")...), traces("1 0 above 1 1 2", "1 0 above 1 1 2"), wide,
		roomy(worstTrace(1)), append(traces(lines...), worstTrace(4)), make([]api.Trace, 141),
	}
}

func probeFace() face {
	return face{
		name: "probe",
		calls: map[string]any{
			"CheckProbes": probe.CheckProbes, "Steps": probe.Steps, "Outcomes": probe.Outcomes, "Cost": probe.Cost, "After": probe.After, "Can": probe.Can,
			"Settled": probe.Settled, "Decides": probe.Decides, "Verdicts": probe.Verdicts, "CheckVerdicts": probe.CheckVerdicts, "Doubt": probe.Doubt,
			"CheckDoubt": probe.CheckDoubt, "Worth": probe.Worth, "Cheapest": probe.Cheapest, "Proof": probe.Proof, "CheckProof": probe.CheckProof,
			"Best": probe.Best, "Write": probe.Write, "Read": probe.Read,
		},
		some:  someOfProbe,
		first: firstOfProbe,
	}
}

// firstOfProbe is the error of a case, or that of its probes.
func firstOfProbe(args []reflect.Value) api.Errno {
	if c, ok := args[0].Interface().(api.Case); ok {
		return probe.CheckProbes(c, args[1].Interface().([]api.Probe))
	}
	return api.OK
}

func someOfProbe(of reflect.Type) []any {
	measure := func(id, part, width, cost int) api.Probe {
		return api.Probe{Id: id, Part: part, Width: width, Cost: cost}
	}
	three := roomy(measure(31, 1, 12, 1), measure(32, 1, 8, 5), measure(33, 2, 8, 2))
	worst := measure(math.MinInt, math.MaxInt, math.MinInt, math.MaxInt)
	doubt := func(probes, findings []int) api.Open {
		return api.Open{Probes: roomy(probes...), Findings: roomy(findings...), Together: roomy(0, 0, 1), Apart: roomy(0, 1, 1)}
	}
	far := api.Open{Probes: roomy(math.MinInt), Findings: roomy(math.MaxInt), Together: roomy(-1, math.MaxInt, 0), Apart: roomy(math.MinInt)}
	refutation := func(s string) []api.Branch {
		r, _ := sure.ReadRefute(s)
		return roomy(r...)
	}
	switch reflect.Zero(of).Interface().(type) {
	case int:
		return []any{0, 1, math.MaxInt, math.MinInt}
	case string:
		return []any{"", "31 probe 1 12 1", "31 probe 1 12 1 ", "31 probe 8 12 1", "x", " ", "31 probe 1 \xff 1", "31 probe 1 12 99999999999999999999"}
	case api.Probe:
		return []any{api.Probe{}, three[0], worst, measure(1000000, 7, 1001, 1000), measure(1, 8, 1, 1)}
	case []int:
		return []any{[]int(nil), roomy(0), roomy(1), roomy(0, 2), roomy(0, 0), roomy(math.MinInt, math.MaxInt)}
	case []api.Probe:
		return []any{[]api.Probe(nil), three, roomy(append(three[:3:3], worst)...), roomy(measure(1, 1, 1, 1)), make([]api.Probe, 6)}
	case api.Open:
		return []any{api.Open{}, doubt(nil, nil), doubt([]int{0, 2}, []int{0, 0}), doubt([]int{1}, []int{0}), far}
	case []api.Open:
		return []any{[]api.Open(nil), roomy(doubt([]int{0, 2}, []int{0, 0})), roomy(doubt(nil, nil), far), make([]api.Open, 40)}
	case []api.Verdict:
		together := api.Verdict{Findings: roomy(0), Answer: api.SureTogether, Proof: refutation("0+1+2")}
		apart := api.Verdict{Findings: roomy(1), Answer: api.SureApart, Proof: refutation("0=1")}
		broken := api.Branch{Kind: api.LeafMany, A: math.MinInt, B: math.MaxInt, Many: roomy(math.MinInt, math.MaxInt)}
		return []any{
			[]api.Verdict(nil), roomy(together, apart), roomy(together, api.Verdict{Findings: roomy(1), Answer: 255, Proof: roomy(broken)}), roomy(apart, together),
			roomy(api.Verdict{Findings: roomy(math.MaxInt), Proof: refutation("0/1")}), make([]api.Verdict, 40),
		}
	}
	piece := func(sherd, low, high, lowBy, highBy int) api.Part {
		return api.Part{Sherds: roomy(sherd), Span: api.Span{Low: low, High: high, LowBy: lowBy, HighBy: highBy}, Rests: roomy(sherd)}
	}
	bell := roomy(piece(101, 10, 20, 1, 2), piece(102, 15, 30, 3, 4), piece(103, 25, 40, 5, 6))
	return []any{
		api.Case{Ware: "bell", Limit: 2, By: 20, Parts: bell}, api.Case{Ware: "bell", Parts: bell}, api.Case{Ware: "bell", Limit: 1, By: 20, Parts: bell}, api.Case{Ware: "bell"},
		api.Case{Ware: "bell", Parts: roomy(append(bell[:3:3], worstPart())...)}, api.Case{Parts: make([]api.Part, 9)},
	}
}
