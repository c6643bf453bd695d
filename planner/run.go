package planner

import (
	"slices"
	"strings"

	"veilstone/api"
	"veilstone/match"
)

// Run performs a plan: it returns all assignments that satisfy a part.
func Run(m api.Model, p api.Part, x api.Plan, most int) (l []api.Match, e api.Errno) {
	if e := common(m, p); e != api.OK {
		return nil, e
	}
	if e := Check(p, x); e != api.OK {
		return nil, e
	}
	if most < 0 || most > api.MaxFacts {
		return nil, api.ErrArg
	}
	r := &run{index: match.New(m), part: p, order: x.Order, most: most, nodes: map[string]string{}}
	if !r.all() {
		return nil, api.ErrLimit
	}
	slices.SortFunc(r.found, func(x, y api.Match) int {
		return slices.CompareFunc(x.Binds, y.Binds, func(a, b api.Bind) int { return strings.Compare(a.Node, b.Node) })
	})
	return r.found, api.OK
}

// run performs a plan.
type run struct {
	index *match.Index
	part  api.Part
	order []int
	most  int
	nodes map[string]string // the partial match
	found []api.Match
}

// all finds all assignments; it reports whether they are not too many.
func (r *run) all() bool {
	terms := match.Terms(r.part)
	for _, t := range terms {
		if n, ok := match.Individual(t); ok {
			if !r.index.IsNode(n) {
				return true
			}
			r.nodes[t] = n
		}
	}
	matchers := [4]func(a api.Atom, next func() bool) bool{
		api.ConceptQ: r.single, api.RoleQ: r.role, api.RangeQ: r.single,
	}
	var extend func(step int) bool
	extend = func(step int) bool {
		if step < len(r.order) {
			a := r.part.Atoms[r.order[step]]
			return matchers[a.Kind](a, func() bool { return extend(step + 1) })
		}
		if len(r.found) == r.most {
			return false
		}
		var x api.Match
		for _, t := range terms {
			x.Binds = append(x.Binds, api.Bind{Term: t, Node: r.nodes[t]})
		}
		r.found = append(r.found, x)
		return true
	}
	return extend(0)
}

// bind tries a node for a term, and takes it back if the term had none.
func (r *run) bind(term, node string, next func() bool) bool {
	if n, known := r.nodes[term]; known {
		return n != node || next()
	}
	r.nodes[term] = node
	ok := next()
	delete(r.nodes, term)
	return ok
}

// single matches an atom with one term.
func (r *run) single(a api.Atom, next func() bool) bool {
	if n, known := r.nodes[a.X]; known {
		return !r.index.Single(a, n) || next()
	}
	for _, n := range r.index.Singles(a) {
		if !r.bind(a.X, n, next) {
			return false
		}
	}
	return true
}

// role matches an atom with two terms.
func (r *run) role(a api.Atom, next func() bool) bool {
	both := func(p match.Pair) bool {
		return r.bind(a.X, p.A, func() bool { return r.bind(a.Y, p.B, next) })
	}
	x, xKnown := r.nodes[a.X]
	y, yKnown := r.nodes[a.Y]
	switch {
	case xKnown && yKnown:
		return !r.index.Role(x, a.Name, y) || next()
	case xKnown:
		for _, n := range r.index.Next(x, a.Name) {
			if !both(match.Pair{A: x, B: n}) {
				return false
			}
		}
	case yKnown:
		for _, n := range r.index.Before(y, a.Name) {
			if !both(match.Pair{A: n, B: y}) {
				return false
			}
		}
	default:
		for _, p := range r.index.Pairs(a.Name) {
			if !both(p) {
				return false
			}
		}
	}
	return true
}
