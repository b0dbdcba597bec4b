package sure

import (
	"slices"

	"conjoin/api"
)

// decision is what is decided of two parts.
type decision struct {
	one   bool // they are of one class
	apart bool // it was decided that they are apart
}

// decisions is what is decided of each two parts.
type decisions [api.MaxParts][api.MaxParts]decision

// node is a node of a refutation: a case, and what is decided there.
type node struct {
	*view
	decided decisions
}

// top returns a node at which nothing is decided.
func (v *view) top() node {
	n := node{view: v}
	for p := range n.decided {
		n.decided[p][p].one = true
	}
	return n
}

// decide returns the node at which the same is decided, and one pair more.
func (n node) decide(a, b int, together bool) node {
	d := &n.decided
	if !together {
		d[a][b].apart, d[b][a].apart = true, true
		return n
	}
	for p := range d {
		for q := range d {
			if d[a][p].one && d[b][q].one {
				d[p][q].one, d[q][p].one = true, true
			}
		}
	}
	return n
}

// clash reports whether two parts clash.
func (n node) clash(a, b int) bool { return n.clashes[a][b] }

// apart reports whether two parts are decided as apart.
func (n node) apart(a, b int) bool { return n.decided[a][b].apart }

// firstTwo returns the first part of the class of a, and part of that of b, of which something is so.
func (n node) firstTwo(a, b int, isSo func(p, q int) bool) (first, second int, is bool) {
search:
	for p := range n.Parts {
		for q := range n.Parts {
			if n.decided[a][p].one && n.decided[b][q].one && isSo(p, q) {
				first, second, is = p, q, true
				break search
			}
		}
	}
	return first, second, is
}

// anyTwo reports whether something is so of a part of the class of a, and a part of that of b.
func (n node) anyTwo(a, b int, isSo func(p, q int) bool) bool {
	_, _, is := n.firstTwo(a, b, isSo)
	return is
}

// isBarred reports whether the classes of two parts cannot be of one vessel.
func (n node) isBarred(a, b int) bool { return n.anyTwo(a, b, n.apart) || n.anyTwo(a, b, n.clash) }

// refute returns a refutation with a node on top; false if there is a reassembly with what is decided there.
//
// Below the top each split has a pair that is neither of one class nor barred, so that each leaf stands for other ways to divide the parts, and for one at least. There are 4140 ways to divide 8 parts, and so 8279 branches at most.
func (n node) refute() ([]api.Branch, bool) {
	var r []api.Branch
	var shows func(n node) bool
	shows = func(n node) bool {
		if b, ok := n.leaf(); ok {
			r = append(r, b)
			return true
		}
		p, ok := n.undecided()
		r = append(r, api.Branch{Kind: api.BranchSplit, A: p.A, B: p.B})
		return ok && shows(n.decide(p.A, p.B, true)) && shows(n.decide(p.A, p.B, false))
	}
	if !shows(n) {
		return nil, false
	}
	return r, true
}

// undecided returns the first two parts that are not of one class, and whose classes are not barred. If there are none, and no leaf either, the classes are the vessels of a reassembly.
func (n node) undecided() (api.Pair, bool) {
	for p := range pairs(len(n.Parts)) {
		if n.decide(p.A, p.B, true).decided != n.decided && !n.isBarred(p.A, p.B) {
			return p, true
		}
	}
	return api.Pair{}, false
}

// leaf returns a leaf that holds at a node.
func (n node) leaf() (api.Branch, bool) {
	for a := range n.Parts {
		for b := range n.Parts {
			l := leaf{n, api.Branch{Kind: api.LeafClash, A: a, B: b}}
			if l.isClash() {
				return l.Branch, true
			}
			l.Kind = api.LeafApart
			if l.isApart() {
				return l.Branch, true
			}
		}
	}
	l := leaf{n, api.Branch{Kind: api.LeafMany, Many: n.many(nil, 0)}}
	return l.Branch, l.isMany()
}

// many returns parts, one more than the limit, that begin with some, go on from another one on, and are barred, each two of them; none if there are none such.
func (n node) many(parts []int, from int) []int {
	if len(parts) > n.Limit {
		return parts
	}
	for p := from; p < len(n.Parts); p++ {
		if slices.ContainsFunc(parts, func(q int) bool { return !n.isBarred(q, p) }) {
			continue
		}
		if l := n.many(append(parts, p), p+1); l != nil {
			return l
		}
	}
	return nil
}

// Refute returns a refutation that shows that two parts cannot be together, or apart.
func Refute(c api.Case, a, b int, together bool) ([]api.Branch, bool, api.Errno) {
	v, e := viewOf(c, a, b)
	if e != api.OK {
		return nil, false, e
	}
	r, ok := v.top().decide(a, b, together).refute()
	return r, ok, api.OK
}

// None returns a refutation that shows that there is no reassembly.
func None(c api.Case) ([]api.Branch, bool, api.Errno) {
	v, e := viewOf(c)
	if e != api.OK {
		return nil, false, e
	}
	r, ok := v.top().refute()
	return r, ok, api.OK
}
