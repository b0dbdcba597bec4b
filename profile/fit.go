package profile

import (
	"iter"
	"slices"

	"conjoin/api"
)

// seat is a type of the ware at a shift, with the frame of the words that fit.
type seat struct {
	of, shift, most int
	frame
}

// seats yields each type of a ware at each shift that leaves all rings within its places.
func seats(l []api.Type, ware string, r []api.Ring) iter.Seq[seat] {
	return func(yield func(seat) bool) {
		for i, t := range l {
			if t.Ware != ware {
				continue
			}
			for shift := range shifts(t, r) {
				if !yield(seat{i, shift, t.Most, frameOf(t).with(r, shift)}) {
					return
				}
			}
		}
	}
}

// shifts returns how many shifts rings can have within a type.
func shifts(t api.Type, r []api.Ring) int {
	if len(r) == 0 {
		return 1
	}
	return max(0, t.Most-r[len(r)-1].At)
}

// fits yields the first fit of each type and shift.
func fits(l []api.Type, ware string, r []api.Ring) iter.Seq[api.Fit] {
	return func(yield func(api.Fit) bool) {
		for s := range seats(l, ware, r) {
			word, ok := s.first()
			if ok && !yield(api.Fit{Type: s.of, Shift: s.shift, Word: word}) {
				return
			}
		}
	}
}

// checkWare returns what is wrong with types and rings, or with a ware that has no types.
func checkWare(l []api.Type, ware string, r []api.Ring) api.Errno {
	if e := CheckTypes(l); e != api.OK {
		return e
	}
	if e := CheckRings(r); e != api.OK {
		return e
	}
	if !slices.Contains(Wares(l), ware) {
		return api.ErrType
	}
	return api.OK
}

// Complete returns the first fit of rings, and whether there is one.
func Complete(l []api.Type, ware string, r []api.Ring) (api.Fit, bool, api.Errno) {
	if e := checkWare(l, ware, r); e != api.OK {
		return api.Fit{}, false, e
	}
	for f := range fits(l, ware, r) {
		return f, true, api.OK
	}
	return api.Fit{}, false, api.OK
}

// CheckFit reports whether rings have a fit.
func CheckFit(l []api.Type, ware string, r []api.Ring, f api.Fit) (bool, api.Errno) {
	if e := checkWare(l, ware, r); e != api.OK {
		return false, e
	}
	for s := range seats(l, ware, r) {
		if s.of == f.Type && s.shift == f.Shift {
			return s.has(f.Word), api.OK
		}
	}
	return false, api.OK
}

// Blanks returns blanks of rings, if these cannot be completed.
func Blanks(l []api.Type, ware string, r []api.Ring) ([]api.Blank, bool, api.Errno) {
	if e := checkWare(l, ware, r); e != api.OK {
		return nil, false, e
	}
	var list []api.Blank
	for s := range seats(l, ware, r) {
		if !s.isBare() {
			return nil, false, api.OK
		}
		list = append(list, s.blank())
	}
	return list, true, api.OK
}

// blank returns the blank of a seat, if nothing fits, with the least sets.
func (s seat) blank() api.Blank {
	b := api.Blank{Type: s.of, Shift: s.shift}
	sets := s.reached()
	for _, x := range sets[:s.most] {
		b.Sets = append(b.Sets, x.letters())
	}
	return b
}

// CheckBlanks reports whether a list is blanks of rings.
func CheckBlanks(l []api.Type, ware string, r []api.Ring, b []api.Blank) (bool, api.Errno) {
	if e := checkWare(l, ware, r); e != api.OK {
		return false, e
	}
	for s := range seats(l, ware, r) {
		if len(b) == 0 || !s.isBlank(b[0]) {
			return false, api.OK
		}
		b = b[1:]
	}
	return len(b) == 0, api.OK
}

// isBlank reports whether a blank is one of a seat.
func (s seat) isBlank(b api.Blank) bool {
	if b.Type != s.of || b.Shift != s.shift || len(b.Sets) != s.most {
		return false
	}
	var sets places
	for p, x := range b.Sets {
		sets[p] = setOf(x)
		if x != inOrder(x) || s.due(p, sets)&^sets[p] != 0 || s.ends(p)&sets[p] != 0 {
			return false
		}
	}
	return true
}

// Shifts returns the first fit of each type and shift.
func Shifts(l []api.Type, ware string, r []api.Ring) ([]api.Fit, api.Errno) {
	if e := checkWare(l, ware, r); e != api.OK {
		return nil, e
	}
	return slices.Collect(fits(l, ware, r)), api.OK
}

// Choices returns the classes that some fit has at a place, counted from that of ring 0 on.
func Choices(l []api.Type, ware string, r []api.Ring, at int) (string, api.Errno) {
	if e := checkWare(l, ware, r); e != api.OK {
		return "", e
	}
	if at < 0 || at >= api.MaxRings {
		return "", api.ErrArg
	}
	var all set
	for s := range seats(l, ware, r) {
		if p := s.shift + at; p < s.most {
			all |= s.lives()[p]
		}
	}
	return all.letters(), api.OK
}

// Ruled returns the indices of rings that cannot be completed, of which none can be left out.
func Ruled(l []api.Type, ware string, r []api.Ring) ([]int, bool, api.Errno) {
	_, ok, e := Complete(l, ware, r)
	if ok || e != api.OK {
		return nil, false, e
	}
	var ruled []int
	for i := len(r) - 1; i >= 0; i-- {
		less := slices.Concat(r[:i], r[i+1:])
		if _, ok, _ := Complete(l, ware, less); ok {
			ruled = append(ruled, i)
		} else {
			r = less
		}
	}
	slices.Reverse(ruled)
	return ruled, true, api.OK
}
