package sure

import (
	"slices"

	"conjoin/api"
)

// leaf is a leaf of a refutation, with what is decided there.
type leaf struct {
	node
	api.Branch
}

func (l leaf) isClash() bool { return l.decided[l.A][l.B].one && l.clash(l.A, l.B) }

func (l leaf) isApart() bool { return l.decided[l.A][l.B].one && l.apart(l.A, l.B) }

func (l leaf) isMany() bool {
	if l.Limit == 0 || len(l.Many) != l.Limit+1 || !isStrict(l.Many) {
		return false
	}
	for p := range pairs(len(l.Many)) {
		if !l.isBarred(l.Many[p.A], l.Many[p.B]) {
			return false
		}
	}
	return true
}

// uses returns the Ids that a leaf uses, also 0, and perhaps more than once.
func (l leaf) uses() []int {
	switch l.Kind {
	case api.LeafClash:
		return l.clashIds(l.A, l.B)
	case api.LeafMany:
		ids := []int{l.By}
		for p := range pairs(len(l.Many)) {
			a, b := l.Many[p.A], l.Many[p.B]
			if !l.anyTwo(a, b, l.apart) {
				a, b, _ = l.firstTwo(a, b, l.clash)
				ids = append(ids, l.clashIds(a, b)...)
			}
		}
		return ids
	}
	return nil
}

// clashIds returns the Ids of the clash of two parts.
func (n node) clashIds(a, b int) []int {
	p, q := n.Parts[a], n.Parts[b]
	if p.Foot && q.Foot {
		return []int{p.FootBy, q.FootBy}
	}
	if p.Span.Low < q.Span.Low {
		p, q = q, p
	}
	return []int{p.Span.LowBy, q.Span.HighBy}
}

// walk is a way through the branches of a refutation.
type walk struct {
	left   []api.Branch
	leaves []leaf
	checks map[uint8]func(leaf) bool
}

// short is what the panic for a branch that is missing carries.
type short struct{}

// next takes a branch. It panics if there is none, since then all nodes above lack theirs.
func (w *walk) next() api.Branch {
	if len(w.left) == 0 {
		panic(short{})
	}
	b := w.left[0]
	w.left = w.left[1:]
	return b
}

// isRefuted reports whether the next branch, with those below it, shows that there is nothing with what is decided at a node.
func (w *walk) isRefuted(n node) bool {
	b := w.next()
	parts, ok := named(b)
	if !ok || slices.Max(parts) >= len(n.Parts) {
		return false
	}
	if b.Kind == api.BranchSplit {
		return b.A != b.B && w.isRefuted(n.decide(b.A, b.B, true)) && w.isRefuted(n.decide(b.A, b.B, false))
	}
	l := leaf{n, b}
	w.leaves = append(w.leaves, l)
	return w.checks[b.Kind](l)
}

// leaves returns the leaves of a refutation with a node on top; false if some branches are none.
func (n node) leaves(r []api.Branch) (leaves []leaf, ok bool) {
	if len(r) > api.MaxBranches {
		return nil, false
	}
	defer func() {
		if recover() != nil {
			leaves, ok = nil, false
		}
	}()
	w := walk{left: r, checks: map[uint8]func(leaf) bool{
		api.LeafClash: leaf.isClash,
		api.LeafApart: leaf.isApart,
		api.LeafMany:  leaf.isMany,
	}}
	ok = w.isRefuted(n) && len(w.left) == 0
	return w.leaves, ok
}

// CheckRefute reports whether a list of branches is a refutation that shows that two parts cannot be together, or apart.
func CheckRefute(c api.Case, a, b int, together bool, r []api.Branch) (bool, api.Errno) {
	v, e := viewOf(c, a, b)
	if e != api.OK {
		return false, e
	}
	_, ok := v.top().decide(a, b, together).leaves(r)
	return ok, api.OK
}

// CheckNone reports whether a list of branches is a refutation that shows that there is no reassembly.
func CheckNone(c api.Case, r []api.Branch) (bool, api.Errno) {
	v, e := viewOf(c)
	if e != api.OK {
		return false, e
	}
	_, ok := v.top().leaves(r)
	return ok, api.OK
}

// Uses returns the Ids that a refutation uses.
func Uses(c api.Case, a, b int, together bool, r []api.Branch) ([]int, api.Errno) {
	v, e := viewOf(c, a, b)
	if e != api.OK {
		return nil, e
	}
	leaves, ok := v.top().decide(a, b, together).leaves(r)
	if !ok {
		return nil, api.ErrProof
	}
	var ids []int
	for _, l := range leaves {
		ids = append(ids, l.uses()...)
	}
	return idsAmong(ids), api.OK
}
