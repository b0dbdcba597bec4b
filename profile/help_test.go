package profile_test

import (
	"math/rand/v2"
	"reflect"
	"slices"
	"strings"
	"testing"

	"conjoin/api"
	"conjoin/profile"
)

// This file has an oracle: slow functions that say what is right as the chapter's words say it, without the package.

// vessels is the source of the chapter's examples.
const vessels = "type jar bell 3 4\nrim ab\nbase d\nafter a c\nafter b ce\nafter c cd\ntype cup bell 2 3\nrim b\nbase cd\nafter b c\nafter c d\n"

// parse reads types from a source.
func parse(t *testing.T, src string) []api.Type {
	t.Helper()
	l, f := profile.ParseTypes(src)
	if f != (api.Fault{}) {
		t.Fatalf("ParseTypes(%q): %v", src, f)
	}
	return l
}

// dice throws numbers that are the same in every run.
type dice struct{ *rand.Rand }

func newDice(seed uint64) dice { return dice{rand.New(rand.NewPCG(seed, 4))} }

// some are classes of a string, each one left out once in so many times; perhaps none.
func (d dice) some(of string, times int) string {
	s := ""
	for _, c := range of {
		if d.IntN(times) > 0 {
			s += string(c)
		}
	}
	return s
}

// someOne is like some, with one class at least.
func (d dice) someOne(of string, times int) string {
	if s := d.some(of, times); s != "" {
		return s
	}
	return string(of[d.IntN(len(of))])
}

// curves are the classes of the types by dice, and one that none of them names.
const curves, strange = "abyz", "m"

// anyType has at most 5 rings.
func (d dice) anyType(name string) api.Type {
	t := api.Type{Name: name, Ware: []string{"bell", "cord", "bell-2"}[d.IntN(3)], Least: 1 + d.IntN(4)}
	t.Most = t.Least + d.IntN(6-t.Least)
	t.Rim, t.Base = d.someOne(curves, 2), d.someOne(curves, 2)
	times := 2 + d.IntN(2)
	for _, c := range curves {
		if d.IntN(4) > 0 {
			t.After[c-'a'] = d.some(curves, times)
		}
	}
	return t
}

// anyTypes has types of several wares.
func (d dice) anyTypes() []api.Type {
	var l []api.Type
	for i := range 1 + d.IntN(4) {
		l = append(l, d.anyType("t"+string(rune('a'+i))))
	}
	return l
}

// anyRings are mostly near each other, so that many can be completed and many cannot.
func (d dice) anyRings() []api.Ring {
	var r []api.Ring
	at := d.IntN(2)
	for range d.IntN(5) {
		set := d.someOne(curves, 3)
		if d.IntN(8) == 0 {
			set = strange
		}
		r = append(r, api.Ring{At: at, Set: set})
		at += 1 + d.IntN(7)/5
	}
	return r
}

// eachList calls f with the types of the examples, and with many by dice.
func eachList(t *testing.T, n int, f func(l []api.Type)) {
	f(parse(t, vessels))
	d := newDice(1)
	for range n {
		f(d.anyTypes())
	}
}

// eachRun calls f with the types of the examples and with many by dice, a ware that they have, and rings.
func eachRun(t *testing.T, n int, f func(l []api.Type, ware string, r []api.Ring)) {
	l := parse(t, vessels)
	for _, r := range exampleRings() {
		f(l, "bell", r)
	}
	d := newDice(2)
	for range n {
		l := d.anyTypes()
		f(l, l[d.IntN(len(l))].Ware, d.anyRings())
	}
}

func ring(at int, set string) api.Ring { return api.Ring{At: at, Set: set} }

// exampleRings are rings for the types of the examples.
func exampleRings() [][]api.Ring {
	return [][]api.Ring{
		nil, {ring(0, "a")}, {ring(1, "d")}, {ring(0, "e")}, {ring(0, "c"), ring(1, "c")}, {ring(0, "c"), ring(1, "d")}, {ring(0, "a"), ring(3, "c")}, {ring(0, "ab"), ring(3, "d")},
		{ring(3, "d")}, {ring(4, "d")}, {ring(0, "b"), ring(1, "c"), ring(2, "z")}, {ring(0, "abcdefghijklmnopqrstuvwxyz")}, {ring(2, "de")}, {ring(1, "c"), ring(11, "d")},
	}
}

// named are the classes that a type names.
func named(t api.Type) string {
	s := t.Rim + t.Base
	for i, after := range t.After {
		if after != "" {
			s += string(rune('a'+i)) + after
		}
	}
	return ascending(s)
}

// ascending are the letters of a string in their order, each once.
func ascending(s string) string {
	b := []byte(s)
	slices.Sort(b)
	return string(slices.Compact(b))
}

// words are all words of up to n letters.
func words(letters string, n int) []string {
	l := []string{""}
	for from := 0; n > 0; n-- {
		to := len(l)
		for _, w := range l[from:to] {
			for _, c := range letters {
				l = append(l, w+string(c))
			}
		}
		from = to
	}
	return l
}

// isProfile is what the chapter calls a profile.
func isProfile(t api.Type, word string) bool {
	if len(word) < t.Least || len(word) > t.Most || !strings.Contains(t.Rim, word[:1]) || !strings.Contains(t.Base, word[len(word)-1:]) {
		return false
	}
	for i := range len(word) - 1 {
		if !strings.Contains(t.After[word[i]-'a'], word[i+1:i+2]) {
			return false
		}
	}
	return true
}

// profiles are all profiles of a type, ascending.
func profiles(t api.Type) []string {
	l := slices.DeleteFunc(words(named(t), t.Most), func(w string) bool { return !isProfile(t, w) })
	slices.Sort(l)
	return l
}

// allFits are all fits of rings by a ware, in their order.
func allFits(l []api.Type, ware string, r []api.Ring) []api.Fit {
	var fits []api.Fit
	for i, t := range l {
		if t.Ware != ware {
			continue
		}
		words := profiles(t)
		for shift := range t.Most {
			for _, w := range words {
				if isFit(r, shift, w) {
					fits = append(fits, api.Fit{Type: i, Shift: shift, Word: w})
				}
			}
		}
	}
	return fits
}

// isFit says whether a profile has the classes of rings at a shift.
func isFit(r []api.Ring, shift int, word string) bool {
	for _, x := range r {
		if shift+x.At >= len(word) || !strings.Contains(x.Set, word[shift+x.At:shift+x.At+1]) {
			return false
		}
	}
	return len(r) > 0 || shift == 0
}

// areBlanks is what the chapter calls blanks of rings.
func areBlanks(l []api.Type, ware string, r []api.Ring, b []api.Blank) bool {
	i := 0
	for of, t := range l {
		for shift := 0; t.Ware == ware; shift++ {
			if len(r) == 0 && shift > 0 || len(r) > 0 && shift+r[len(r)-1].At >= t.Most {
				break
			}
			if i == len(b) || b[i].Type != of || b[i].Shift != shift || !isBlank(t, r, shift, b[i].Sets) {
				return false
			}
			i++
		}
	}
	return i == len(b)
}

func isBlank(t api.Type, r []api.Ring, shift int, sets []string) bool {
	if len(sets) != t.Most {
		return false
	}
	for p, set := range sets {
		if set != ascending(set) || strings.Trim(set, "abcdefghijklmnopqrstuvwxyz") != "" {
			return false
		}
		may := t.Rim
		if p > 0 {
			may = ""
			for _, c := range sets[p-1] {
				may += t.After[c-'a']
			}
		}
		ends := p+1 >= t.Least
		for _, x := range r {
			ends = ends && shift+x.At <= p
			if shift+x.At == p {
				may = inBoth(may, x.Set)
			}
		}
		if inBoth(set, may) != ascending(may) || ends && inBoth(set, t.Base) != "" {
			return false
		}
	}
	return true
}

// inBoth are the letters that two strings have.
func inBoth(a, b string) string {
	return strings.Map(func(c rune) rune {
		if strings.ContainsRune(b, c) {
			return c
		}
		return -1
	}, ascending(a))
}

func wantErr(t *testing.T, what string, got, want api.Errno) {
	t.Helper()
	if got != want {
		t.Errorf("%s: error %d, want %d", what, got, want)
	}
}

// wantAll holds a result, without its error, against what it should be; empty lists are alike.
func wantAll(t *testing.T, what any, e api.Errno, got, want any) {
	t.Helper()
	a, b := reflect.ValueOf(got), reflect.ValueOf(want)
	bare := a.Kind() == reflect.Slice && a.Len() == 0 && b.Len() == 0
	if e != api.OK || !bare && !reflect.DeepEqual(got, want) {
		t.Errorf("%v: %v, error %d, want %v", what, got, e, want)
	}
}
