package profile

import (
	"iter"

	"conjoin/api"
)

// places are the classes at each place of a word, from the rim on. There are none beyond the greatest length, which leaves at least one place behind it.
type places [api.MaxRings + 1]set

// frame is what words keep to: at least so many letters, each one a class of its place that may come below the one before it, and the last one of the base.
type frame struct {
	least int
	at    places
	after [classes]set
	base  set
}

// frameOf returns what the profiles of a type, which was checked, keep to.
func frameOf(t api.Type) frame {
	f := frame{least: t.Least, base: setOf(t.Base)}
	for c, s := range t.After {
		f.after[c] = setOf(s)
	}
	for p := range t.Most {
		f.at[p] = every
	}
	f.at[0] = setOf(t.Rim)
	return f
}

// with returns the frame of the words that have rings, which were checked, the ring 0 at the place shift. It has to have so many places.
func (f frame) with(r []api.Ring, shift int) frame {
	for _, x := range r {
		p := shift + x.At
		f.at[p] &= setOf(x.Set)
		f.least = max(f.least, p+1)
	}
	return f
}

// cut returns the frame of the words with at most n letters.
func (f frame) cut(n int) frame {
	clear(f.at[n:])
	return f
}

// and returns the frame of the words that keep to two of them.
func (f frame) and(g frame) frame {
	f.least = max(f.least, g.least)
	f.base &= g.base
	for p, s := range g.at {
		f.at[p] &= s
	}
	for c, s := range g.after {
		f.after[c] &= s
	}
	return f
}

// below returns the classes that may come below one.
func (f frame) below(c byte) set { return f.after[c-'a'] }

// above returns the classes below which one may come.
func (f frame) above(c byte) set {
	var all set
	for b, s := range f.after {
		if s&one(c) != 0 {
			all |= 1 << b
		}
	}
	return all
}

// ends returns the classes that end a word if they are at a place.
func (f frame) ends(p int) set {
	if p+1 < f.least {
		return 0
	}
	return f.base
}

// due returns the classes that can be at a place, if some are at that before it.
func (f frame) due(p int, sets places) set {
	if p == 0 {
		return f.at[0]
	}
	return sets[p-1].spread(f.below) & f.at[p]
}

// reached returns the classes that can be at each place behind those before it.
func (f frame) reached() places {
	var sets places
	for p := range sets {
		sets[p] = f.due(p, sets)
	}
	return sets
}

// lives returns the classes that some word has at each place: of those that are reached, those that end it or go on to one that lives.
func (f frame) lives() places {
	sets := f.reached()
	var goOn set
	for p := len(sets) - 1; p >= 0; p-- {
		sets[p] &= f.ends(p) | goOn
		goOn = sets[p].spread(f.above)
	}
	return sets
}

// alive returns the classes that some word has.
func (f frame) alive() set {
	var all set
	for _, s := range f.lives() {
		all |= s
	}
	return all
}

// named returns the classes that a type names of which this is the frame.
func (f frame) named() set {
	all := f.at[0] | f.base
	for c := range every.all() {
		if s := f.below(c); s != 0 {
			all |= one(c) | s
		}
	}
	return all
}

// isBare reports whether there are no words.
func (f frame) isBare() bool { return f.lives() == places{} }

// has reports whether a string is one of the words.
func (f frame) has(word string) bool {
	if len(word) < f.least || len(word) > api.MaxRings {
		return false
	}
	var sets places
	for p := range len(word) {
		sets[p] = f.due(p, sets) & one(word[p])
	}
	last := len(word) - 1
	return sets[last]&f.ends(last) != 0
}

// words yields all words, as strings are compared. Each step leads to one, since it keeps to the classes that live.
func (f frame) words() iter.Seq[string] {
	return func(yield func(string) bool) {
		live := f.lives()
		var grow func(word string, next set) bool
		grow = func(word string, next set) bool {
			p := len(word)
			for c := range (next & live[p]).all() {
				longer := word + string(rune(c))
				if f.ends(p)&one(c) != 0 && !yield(longer) || !grow(longer, f.below(c)) {
					return false
				}
			}
			return true
		}
		grow("", every)
	}
}

// first returns the first word, and whether there is one.
func (f frame) first() (string, bool) {
	for word := range f.words() {
		return word, true
	}
	return "", false
}

// shortest returns the first one of the words with the fewest letters, and whether there is one. The first cut that leaves any words leaves these alone.
func (f frame) shortest() (word string, ok bool) {
search:
	for n := f.least; n <= api.MaxRings; n++ {
		for word = range f.cut(n).words() {
			ok = true
			break search
		}
	}
	return word, ok
}

// many returns how many words there are, at most about 26^12, which an int can hold.
func (f frame) many() int {
	sum := 0
	var ways [classes]int // how many beginnings of words end with each class at the place
	for p, may := range f.at {
		var more [classes]int
		for c := range may.all() {
			if p == 0 {
				more[c-'a'] = 1
			}
			for b := range f.above(c).all() {
				more[c-'a'] += ways[b-'a']
			}
		}
		ways = more
		for c := range f.ends(p).all() {
			sum += ways[c-'a']
		}
	}
	return sum
}
