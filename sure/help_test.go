package sure_test

import (
	"fmt"
	"math/rand/v2"
	"slices"
	"testing"

	"conjoin/api"
	"conjoin/oracle"
	"conjoin/sure"
)

// This file has an oracle: slow functions that say what is right as the chapter's words say it, without the package.

func limited() api.Case { return oracle.Limited() }

func unlimited() api.Case { return oracle.Unlimited(oracle.Limited()) }

// tight is limited with a limit for which there is no reassembly.
func tight() api.Case {
	c := limited()
	c.Limit = 1
	return c
}

// house is a case of five parts, each of which clashes with the next one alone. Only if the first one and the last one are together there are no more than two vessels, although no three parts clash, each two of them, if these are apart.
func house() api.Case {
	c := api.Case{Ware: "bell", Limit: 2, By: 30}
	for i, s := range []api.Span{{Low: 4, High: 12}, {Low: 10, High: 19}, {Low: 2, High: 7}, {Low: 12, High: 13}, {Low: 1, High: 10}} {
		s.LowBy, s.HighBy = 2*i+1, 2*i+2
		c.Parts = append(c.Parts, api.Part{Sherds: []int{i + 1}, Span: s, Foot: i < 2})
	}
	c.Parts[0].FootBy, c.Parts[1].FootBy = 21, 22
	return c
}

// having are the reassemblies in which two parts are together, or apart.
func having(c api.Case, a, b int, together bool) [][]int {
	return slices.DeleteFunc(oracle.Reassemblies(c), func(v []int) bool { return (v[a] == v[b]) != together })
}

// answerOf is the answer of two parts.
func answerOf(c api.Case, a, b int) uint8 {
	switch {
	case len(having(c, a, b, false)) == 0:
		return api.SureTogether
	case len(having(c, a, b, true)) == 0:
		return api.SureApart
	}
	return api.SureOpen
}

// twoOf are each two different parts, the lesser one first.
func twoOf(c api.Case) []api.Pair {
	var l []api.Pair
	for a := range c.Parts {
		for b := a + 1; b < len(c.Parts); b++ {
			l = append(l, api.Pair{A: a, B: b})
		}
	}
	return l
}

// decided is a pair that is decided at a node.
type decided struct {
	a, b     int
	together bool
}

// place is a leaf, with all that is decided there.
type place struct {
	c    api.Case
	said []decided
	leaf api.Branch
}

// class is the parts to which pairs that are together lead from one.
func (p place) class(a int) []int {
	in := map[int]bool{a: true}
	for range p.said {
		for _, x := range p.said {
			if x.together && (in[x.a] || in[x.b]) {
				in[x.a], in[x.b] = true, true
			}
		}
	}
	var l []int
	for q := range p.c.Parts {
		if in[q] {
			l = append(l, q)
		}
	}
	return l
}

func (p place) isOne(a, b int) bool { return slices.Contains(p.class(a), b) }

func (p place) isApart(a, b int) bool {
	return slices.Contains(p.said, decided{a, b, false}) || slices.Contains(p.said, decided{b, a, false})
}

// between are the parts of two classes, in their order.
func (p place) between(a, b int) []api.Pair {
	var l []api.Pair
	for _, x := range p.class(a) {
		for _, y := range p.class(b) {
			l = append(l, api.Pair{A: x, B: y})
		}
	}
	return l
}

func (p place) anyApart(a, b int) bool {
	return slices.ContainsFunc(p.between(a, b), func(x api.Pair) bool { return p.isApart(x.A, x.B) })
}

func (p place) anyClash(a, b int) bool {
	return slices.ContainsFunc(p.between(a, b), func(x api.Pair) bool { return oracle.Clash(p.c, x.A, x.B) })
}

func isPart(c api.Case, p int) bool { return p >= 0 && p < len(c.Parts) }

// holds says whether a leaf is as the chapter says.
func (p place) holds() bool {
	l := p.leaf
	switch l.Kind {
	case api.LeafClash, api.LeafApart:
		if !isPart(p.c, l.A) || !isPart(p.c, l.B) || len(l.Many) > 0 || !p.isOne(l.A, l.B) {
			return false
		}
		return l.Kind == api.LeafClash && oracle.Clash(p.c, l.A, l.B) || l.Kind == api.LeafApart && p.isApart(l.A, l.B)
	case api.LeafMany:
		if l.A != 0 || l.B != 0 || p.c.Limit == 0 || len(l.Many) != p.c.Limit+1 {
			return false
		}
		for i, b := range l.Many {
			if !isPart(p.c, b) || i > 0 && b <= l.Many[i-1] {
				return false
			}
			for _, a := range l.Many[:i] {
				if !p.anyApart(a, b) && !p.anyClash(a, b) {
					return false
				}
			}
		}
		return true
	}
	return false
}

// ids are those that a leaf uses.
func (p place) ids() []int {
	of := func(x api.Pair) []int {
		a, b := p.c.Parts[x.A], p.c.Parts[x.B]
		switch {
		case a.Foot && b.Foot:
			return []int{a.FootBy, b.FootBy}
		case a.Span.Low > b.Span.Low:
			return []int{a.Span.LowBy, b.Span.HighBy}
		}
		return []int{b.Span.LowBy, a.Span.HighBy}
	}
	var l []int
	switch p.leaf.Kind {
	case api.LeafClash:
		l = of(api.Pair{A: p.leaf.A, B: p.leaf.B})
	case api.LeafMany:
		l = []int{p.c.By}
		for i, b := range p.leaf.Many {
			for _, a := range p.leaf.Many[:i] {
				if p.anyApart(a, b) {
					continue
				}
				between := p.between(a, b)
				first := slices.IndexFunc(between, func(x api.Pair) bool { return oracle.Clash(p.c, x.A, x.B) })
				l = append(l, of(between[first])...)
			}
		}
	}
	return l
}

// placesOf are the leaves of a refutation; false if it is none.
func placesOf(c api.Case, said []decided, r []api.Branch) ([]place, bool) {
	places, left, ok := below(c, said, r)
	return places, ok && len(left) == 0 && len(r) <= 20000
}

// below are the leaves below a node, and what stands behind them.
func below(c api.Case, said []decided, r []api.Branch) ([]place, []api.Branch, bool) {
	if len(r) == 0 {
		return nil, nil, false
	}
	b, left := r[0], r[1:]
	if b.Kind != api.BranchSplit {
		p := place{c, said, b}
		return []place{p}, left, p.holds()
	}
	if !isPart(c, b.A) || !isPart(c, b.B) || b.A == b.B || len(b.Many) > 0 {
		return nil, nil, false
	}
	var places []place
	for _, together := range []bool{true, false} {
		some, behind, ok := below(c, append(slices.Clone(said), decided{b.A, b.B, together}), left)
		if !ok {
			return nil, nil, false
		}
		places, left = append(places, some...), behind
	}
	return places, left, true
}

// usedBy are the Ids that a refutation uses.
func usedBy(places []place) []int {
	var l []int
	for _, p := range places {
		l = append(l, p.ids()...)
	}
	slices.Sort(l)
	return slices.DeleteFunc(slices.Compact(l), func(id int) bool { return id == 0 })
}

// leaves are all that hold where some pairs are decided.
func leaves(c api.Case, said []decided) []api.Branch {
	var l []api.Branch
	for a := range c.Parts {
		for b := range c.Parts {
			l = append(l, api.Branch{Kind: api.LeafClash, A: a, B: b}, api.Branch{Kind: api.LeafApart, A: a, B: b})
		}
	}
	many := [][]int{nil}
	for p := range c.Parts {
		for _, s := range many {
			many = append(many, append(slices.Clone(s), p))
		}
	}
	for _, s := range many {
		l = append(l, api.Branch{Kind: api.LeafMany, Many: s})
	}
	return slices.DeleteFunc(l, func(b api.Branch) bool { return !place{c, said, b}.holds() })
}

// idsOf are the Ids of a case.
func idsOf(c api.Case) []int {
	var l []int
	for id := 1; id <= 1000; id++ {
		is := c.By == id
		for _, p := range c.Parts {
			is = is || p.Span.LowBy == id || p.Span.HighBy == id || p.FootBy == id
		}
		if is {
			l = append(l, id)
		}
	}
	return l
}

// only is a case without its Ids that are not in a list.
func only(c api.Case, ids []int) api.Case {
	gone := func(id int) bool { return id != 0 && !slices.Contains(ids, id) }
	d := api.Case{Ware: c.Ware, Limit: c.Limit, By: c.By}
	if gone(c.By) {
		d.Limit, d.By = 0, 0
	}
	for _, p := range c.Parts {
		q := api.Part{Sherds: p.Sherds, Rests: p.Rests, Span: api.Span{High: 1000}}
		if !gone(p.Span.LowBy) {
			q.Span.Low, q.Span.LowBy = p.Span.Low, p.Span.LowBy
		}
		if !gone(p.Span.HighBy) {
			q.Span.High, q.Span.HighBy = p.Span.High, p.Span.HighBy
		}
		if !gone(p.FootBy) {
			q.Foot, q.FootBy = p.Foot, p.FootBy
		}
		d.Parts = append(d.Parts, q)
	}
	return d
}

// dice throws numbers that are the same in every run.
type dice struct{ *rand.Rand }

func newDice(seed uint64) dice { return dice{rand.New(rand.NewPCG(seed, 7))} }

// anyLeaf is one that holds, if there is one.
func (d dice) anyLeaf(c api.Case, said []decided) (api.Branch, bool) {
	l := leaves(c, said)
	if len(l) == 0 {
		return api.Branch{}, false
	}
	// First a kind, since there are fewer leaves of some kinds.
	kind := l[d.IntN(len(l))].Kind
	if d.IntN(2) == 0 {
		kind = api.LeafApart
	}
	of := slices.DeleteFunc(slices.Clone(l), func(b api.Branch) bool { return b.Kind != kind })
	if len(of) == 0 {
		of = l
	}
	return of[d.IntN(len(of))], true
}

// anyTree is branches below a node; a refutation, if there is one that is not too deep.
func (d dice) anyTree(c api.Case, said []decided, deep int) []api.Branch {
	leaf, ok := d.anyLeaf(c, said)
	if ok && (deep == 0 || d.IntN(3) > 0) {
		return []api.Branch{leaf}
	}
	if deep == 0 || len(c.Parts) < 2 {
		return []api.Branch{d.anyBranch()}
	}
	two := d.Perm(len(c.Parts))[:2]
	r := []api.Branch{{Kind: api.BranchSplit, A: two[0], B: two[1]}}
	for _, together := range []bool{true, false} {
		r = append(r, d.anyTree(c, append(slices.Clone(said), decided{two[0], two[1], together}), deep-1)...)
	}
	return r
}

// anyBranch is one with a word.
func (d dice) anyBranch() api.Branch {
	b := api.Branch{Kind: uint8(1 + d.IntN(4)), A: d.IntN(8), B: d.IntN(8)}
	if b.Kind == api.LeafMany {
		b.A, b.B = 0, 0
		for range 2 + d.IntN(7) {
			b.Many = append(b.Many, d.IntN(8))
		}
	}
	return b
}

// spoilt is a list of branches with something else in it.
func (d dice) spoilt(r []api.Branch) []api.Branch {
	r = slices.Clone(r)
	for i, b := range r {
		r[i].Many = slices.Clone(b.Many)
	}
	i := d.IntN(len(r))
	b := &r[i]
	switch d.IntN(9) {
	case 0:
		return slices.Delete(r, i, i+1)
	case 1:
		return slices.Insert(r, i, r[d.IntN(len(r))])
	case 2:
		b.Kind = uint8(oracle.OneOf(d, 0, 1, 2, 3, 4, 5, 255))
	case 3:
		b.A = d.IntN(10) - 1
	case 4:
		b.B = d.IntN(10) - 1
	case 5:
		b.A, b.B = b.B, b.A
	case 6:
		b.Many = append(b.Many, d.IntN(8))
	case 7:
		if len(b.Many) > 0 {
			b.Many[d.IntN(len(b.Many))] = d.IntN(10) - 1
		}
	case 8:
		*b = d.anyBranch()
	}
	return r
}

// anyHouse is a house with other parts, some of which clash with all, and in any order.
func (d dice) anyHouse(n int) api.Case {
	c := house()
	for i := range n - 5 {
		low := oracle.OneOf(d, 2, 5, 9, 100*i+100)
		c.Parts = append(c.Parts, api.Part{Sherds: []int{i + 6}, Span: api.Span{Low: low, High: low + d.IntN(10), LowBy: i + 41, HighBy: i + 51}})
		if low > 9 {
			c.Limit++
		}
	}
	d.Shuffle(n, func(i, j int) { c.Parts[i], c.Parts[j] = c.Parts[j], c.Parts[i] })
	return c
}

// eachCase calls f with the cases of the examples, and with many by dice, of some parts at most.
func eachCase(t *testing.T, times, most int, f func(c api.Case)) {
	t.Helper()
	l := []api.Case{limited(), unlimited(), tight(), house(), {Ware: "bell"}, {Ware: "bell", Limit: 1}}
	d := newDice(uint64(most))
	for i := range times {
		n := i % (most + 1)
		if n >= 5 && d.IntN(4) == 0 {
			l = append(l, d.anyHouse(n))
		} else {
			l = append(l, oracle.AnyCase(d, n))
		}
	}
	for _, c := range l {
		if e := sure.CheckCase(c); e != api.OK {
			t.Fatalf("CheckCase(%+v): error %d", c, e)
		}
		f(c)
	}
}

// eachTwo calls f with each two parts of many cases.
func eachTwo(t *testing.T, times, most int, f func(c api.Case, a, b int)) {
	t.Helper()
	eachCase(t, times, most, func(c api.Case) {
		for a := range c.Parts {
			for b := range c.Parts {
				f(c, a, b)
			}
		}
	})
}

// want holds results against what they should be; empty lists are alike.
func want(t *testing.T, what any, got, want []any) {
	t.Helper()
	if a, b := fmt.Sprintf("%+v", got), fmt.Sprintf("%+v", want); a != b {
		t.Errorf("%+v: %s, want %s", what, a, b)
	}
}

// all is several results as one list.
func all(x ...any) []any { return x }
