package sherd_test

import (
	"maps"
	"slices"
	"strings"
	"testing"

	"conjoin/api"
	"conjoin/oracle"
	"conjoin/sherd"
)

// This file has an oracle: slow functions that say what is right as the chapter's words say it, without the package.

// read is the catalogue with some lines, which need not be one.
func read(t *testing.T, lines ...string) []api.Item {
	t.Helper()
	var l []api.Item
	for _, line := range lines {
		x, e := sherd.Read(line)
		if e != api.OK {
			t.Fatalf("Read(%q): error %d", line, e)
		}
		l = append(l, x)
	}
	return l
}

// shelf is the catalogue l of the chapter's examples.
func shelf(t *testing.T) []api.Item {
	t.Helper()
	return read(t, "1 0 sherd bell 1 4 4 foot", "2 0 way 1 0 2 30 34", "3 1 way 1 1 2 10 12", "4 2 colour 1 300 500", "5 3 colour 1 450 600", "6 3 curve 1 bcd", "7 5 way 1 0 1 25 40", "8 6 limit bell 2")
}

// dice are numbers that are the same in every run.
type dice uint64

func (d *dice) below(n int) int {
	*d = *d*6364136223846793005 + 1442695040888963407
	return int(uint64(*d)>>33) % n
}

func (d *dice) one(list ...int) int { return list[d.below(len(list))] }

// anyItem is well-formed, of a sherd with 3 corners or of one that may not be there.
func (d *dice) anyItem(known int) api.Item {
	x := api.Item{Id: 1 + d.below(40), Known: known, Kind: uint8(d.one(1, 2, 2, 2, 3, 3, 4, 4, 5, 5, 6, 7, 7))}
	switch x.Kind {
	case api.ItemSherd:
		x.Ware, x.Pit, x.Layer, x.Corners, x.Foot = []string{"bell", "cord", "b"}[d.below(3)], 1+d.below(2), 1+d.below(3), 3, d.below(3) == 0
	case api.ItemWay:
		x.From = d.below(3)
		x.To = x.From + 1 + d.below(3-x.From)
		x.Low = 1 + d.below(4*(x.To-x.From))
		x.High = x.Low + d.below(4)
	case api.ItemTurn:
		x.From = d.below(2)
		x.To = x.From + 1 + d.below(2-x.From)
		x.Low = 40*d.below(9*(x.To-x.From)) - 180*(x.To-x.From)
		x.High = x.Low + d.below(80)
	case api.ItemColour:
		x.Low = 10 * d.below(4)
		x.High = x.Low + 10*d.below(4) + d.below(2)*1000
		x.High = min(x.High, 1000)
	case api.ItemCurve:
		for c := 'a'; c <= 'd'; c++ {
			if d.below(3) > 0 || c == 'd' && x.Set == "" {
				x.Set += string(c)
			}
		}
	case api.ItemLimit:
		x.Ware, x.Limit = []string{"bell", "cord"}[d.below(2)], 1+d.below(40)
	case api.ItemVoid:
		x.Of = 1 + d.below(40)
	}
	if x.Kind != api.ItemSherd && x.Kind < api.ItemLimit {
		x.Sherd = 1 + d.below(40)
	}
	return x
}

// aim names an item that is there in the place of one that may not be.
func (d *dice) aim(l []api.Item, x api.Item) api.Item {
	if len(l) == 0 || d.below(8) == 0 {
		return x
	}
	if x.Kind == api.ItemVoid {
		x.Of = l[d.below(len(l))].Id
	}
	if x.Sherd != 0 {
		for range 9 {
			if y := l[d.below(len(l))]; y.Kind == api.ItemSherd {
				x.Sherd = y.Id
			}
		}
	}
	return x
}

// anyCatalogue has up to so many items, of which refused says that they are none of a catalogue are left out.
func (d *dice) anyCatalogue(most int) []api.Item {
	var l []api.Item
	day := 0
	for range most {
		day += d.one(0, 0, 1, 2)
		if x := d.aim(l, d.anyItem(day)); refused(l, x) == api.OK {
			l = append(l, x)
		}
	}
	return l
}

// eachCatalogue calls f with the examples and with many catalogues by dice.
func eachCatalogue(t *testing.T, n int, f func(l []api.Item)) {
	f(nil)
	f(shelf(t))
	d := dice(7)
	for i := range n {
		f(d.anyCatalogue(4 + i%40))
	}
}

// withdrawn says whether an item before the index n withdraws an item.
func withdrawn(l []api.Item, n, id int) bool {
	return slices.ContainsFunc(l[:n], func(y api.Item) bool { return y.Kind == api.ItemVoid && y.Of == id })
}

// there is the item with an Id before the index n, if it is not withdrawn before n.
func there(l []api.Item, n, id int) (api.Item, bool) {
	for _, y := range l[:n] {
		if y.Id == id && !withdrawn(l, n, id) {
			return y, true
		}
	}
	return api.Item{}, false
}

// refused is the error of an item, well-formed, behind a catalogue.
func refused(l []api.Item, x api.Item) api.Errno {
	n := len(l)
	if n == 300 {
		return api.ErrLimit
	}
	own := 0
	for _, y := range l {
		if y.Id == x.Id {
			return api.ErrTwice
		}
		named := x.Kind == api.ItemVoid && y.Sherd == x.Of || x.Sherd != 0 && y.Sherd == x.Sherd
		if named && !withdrawn(l, n, y.Id) {
			own++
		}
	}
	if n > 0 && x.Known < l[n-1].Known {
		return api.ErrTime
	}
	switch x.Kind {
	case 2, 3, 4, 5:
		s, ok := there(l, n, x.Sherd)
		switch {
		case !ok || s.Kind != 1:
			return api.ErrNone
		case x.Kind == 2 && x.To > s.Corners, x.Kind == 3 && x.To >= s.Corners:
			return api.ErrArg
		case own >= 150:
			return api.ErrLimit
		}
	case 7:
		y, ok := there(l, n, x.Of)
		switch {
		case !ok || y.Kind == 7:
			return api.ErrNone
		case y.Kind == 1 && own > 0:
			return api.ErrState
		}
	}
	return api.OK
}

// count are the items that count on a day.
func count(l []api.Item, day int) []api.Item {
	var c []api.Item
	for _, x := range l {
		out := slices.ContainsFunc(l, func(y api.Item) bool { return y.Kind == 7 && y.Known <= day && y.Of == x.Id })
		if x.Kind != 7 && x.Known <= day && !out {
			c = append(c, x)
		}
	}
	return c
}

// own are the counting items of one kind of a sherd.
func own(l []api.Item, day, id int, kind uint8) []api.Item {
	return slices.DeleteFunc(count(l, day), func(x api.Item) bool { return x.Kind != kind || x.Sherd != id })
}

// corners are the sherds that count, with their numbers of corners.
func corners(l []api.Item, day int) map[int]int {
	m := map[int]int{}
	for _, x := range count(l, day) {
		if x.Kind == 1 {
			m[x.Id] = x.Corners
		}
	}
	return m
}

// days are those on which something may be another one, and some around them.
func days(l []api.Item) []int {
	ds := []int{-1, 0, 1 << 40}
	for _, x := range l {
		ds = append(ds, x.Known)
	}
	slices.Sort(ds)
	return slices.Compact(ds)
}

// eachSherd calls f with each sherd on each day of many catalogues.
func eachSherd(t *testing.T, n int, f func(l []api.Item, day, id, corners int)) {
	eachCatalogue(t, n, func(l []api.Item) {
		for _, day := range days(l) {
			m := corners(l, day)
			for _, id := range slices.Sorted(maps.Keys(m)) {
				f(l, day, id, m[id])
			}
		}
	})
}

// wayBounds are the Ways of an outline as known, of some ways alone.
func wayBounds(n int, ways []api.Item) []api.Bound {
	var b []api.Bound
	for i := range n {
		b = append(b, api.Bound{From: i + 1, To: i, Most: -1})
	}
	return append(b, itemBounds(ways)...)
}

// turnBounds are the Turns of an outline as known, of some turns alone.
func turnBounds(n int, turns []api.Item) []api.Bound {
	var b []api.Bound
	for i := range n - 1 {
		b = append(b, api.Bound{From: i, To: i + 1, Most: 179}, api.Bound{From: i + 1, To: i, Most: 179})
	}
	return append(b, itemBounds(turns)...)
}

func itemBounds(l []api.Item) []api.Bound {
	var b []api.Bound
	for _, x := range l {
		b = append(b, api.Bound{From: x.From, To: x.To, Most: x.High, By: x.Id}, api.Bound{From: x.To, To: x.From, Most: -x.Low, By: x.Id})
	}
	return b
}

// clash says whether items of a sherd, all of the kind that a kind of doubts is of, contradict each other.
func clash(kind uint8, n int, l []api.Item) bool {
	switch kind {
	case api.DoubtWay:
		_, ok := oracle.Differences(n+1, wayBounds(n, l))
		return !ok
	case api.DoubtTurn:
		_, ok := oracle.Differences(n, turnBounds(n, l))
		return !ok
	case api.DoubtColour:
		for _, x := range l {
			for _, y := range l {
				if x.Low > y.High {
					return true
				}
			}
		}
		return false
	}
	return classes(l) == ""
}

// classes are the classes of some curves.
func classes(l []api.Item) string {
	s := ""
	for c := 'a'; c <= 'z'; c++ {
		if !slices.ContainsFunc(l, func(x api.Item) bool { return !strings.ContainsRune(x.Set, c) }) {
			s += string(c)
		}
	}
	return s
}

// without is a list without the item at an index.
func without(l []api.Item, i int) []api.Item {
	return append(append([]api.Item{}, l[:i]...), l[i+1:]...)
}

func ids(l []api.Item) []int {
	var n []int
	for _, x := range l {
		n = append(n, x.Id)
	}
	slices.Sort(n)
	return n
}

func wantErr(t *testing.T, what string, got, want api.Errno) {
	t.Helper()
	if got != want {
		t.Errorf("%s: error %d, want %d", what, got, want)
	}
}

func wantList[T comparable](t *testing.T, what string, got []T, e api.Errno, want ...T) {
	t.Helper()
	if e != api.OK || !slices.Equal(got, want) {
		t.Errorf("%s: %v, error %d, want %v", what, got, e, want)
	}
}
