package match

import (
	"iter"
	"maps"
	"slices"
	"strings"

	"veilstone/api"
)

// Terms returns the terms of a part, in order.
func Terms(p api.Part) (l []string) {
	for _, a := range p.Atoms {
		l = append(l, a.X)
		if a.Kind == api.RoleQ {
			l = append(l, a.Y)
		}
	}
	slices.Sort(l)
	return slices.Compact(l)
}

// Individual returns the node of a term that is an individual.
func Individual(term string) (node string, ok bool) {
	if strings.HasPrefix(term, "?") {
		return "", false
	}
	return "{" + term + "}", true
}

// Satisfies reports whether nodes for all terms of an atom satisfy it.
func (x *Index) Satisfies(a api.Atom, nodes map[string]string) bool {
	if a.Kind == api.RoleQ {
		return x.Role(nodes[a.X], a.Name, nodes[a.Y])
	}
	return x.Single(a, nodes[a.X])
}

// Assignments yields the assignments of a part that satisfy it: the nodes of the terms. What is yielded must not be changed.
func (x *Index) Assignments(p api.Part) iter.Seq[map[string]string] {
	return func(yield func(map[string]string) bool) {
		nodes := map[string]string{}
		for _, t := range Terms(p) {
			if n, ok := Individual(t); ok {
				if !x.isNode[n] {
					return
				}
				nodes[t] = n
			}
		}
		x.assign(p.Atoms, nodes, yield)
	}
}

// assign extends an assignment to further atoms, first to one with the fewest candidates. It reports whether to go on.
func (x *Index) assign(atoms []api.Atom, nodes map[string]string, yield func(map[string]string) bool) bool {
	if len(atoms) == 0 {
		return yield(nodes)
	}
	best, fewest := 0, -1
	for i, a := range atoms {
		if n := x.candidates(a, nodes); fewest < 0 || n < fewest {
			best, fewest = i, n
		}
	}
	a := atoms[best]
	rest := slices.Delete(slices.Clone(atoms), best, best+1)
	for extended := range x.Extend(a, nodes) {
		if !x.assign(rest, extended, yield) {
			return false
		}
	}
	return true
}

// candidates returns about how many extensions an atom has.
func (x *Index) candidates(a api.Atom, nodes map[string]string) int {
	n, known := nodes[a.X]
	if a.Kind != api.RoleQ {
		if known {
			return 0
		}
		return len(x.Singles(a))
	}
	m, knownToo := nodes[a.Y]
	switch {
	case known && knownToo:
		return 0
	case known:
		return len(x.Next(n, a.Name))
	case knownToo:
		return len(x.Before(m, a.Name))
	}
	return len(x.pairs[a.Name])
}

// Extend yields the extensions of an assignment to the terms of an atom that satisfy it.
func (x *Index) Extend(a api.Atom, nodes map[string]string) iter.Seq[map[string]string] {
	return func(yield func(map[string]string) bool) {
		n, known := nodes[a.X]
		m, knownToo := nodes[a.Y]
		with := func(p Pair) bool {
			e := maps.Clone(nodes)
			e[a.X] = p.A
			if a.Kind == api.RoleQ {
				e[a.Y] = p.B
			}
			return yield(e)
		}
		switch {
		case known && (knownToo || a.Kind != api.RoleQ):
			if x.Satisfies(a, nodes) {
				yield(nodes)
			}
		case a.Kind != api.RoleQ:
			each(x.Singles(a), func(s string) bool { return with(Pair{A: s}) })
		case known:
			each(x.Next(n, a.Name), func(s string) bool { return with(Pair{n, s}) })
		case knownToo:
			each(x.Before(m, a.Name), func(s string) bool { return with(Pair{s, m}) })
		default:
			each(x.pairs[a.Name], func(p Pair) bool { return a.X == a.Y && p.A != p.B || with(p) })
		}
	}
}

// each calls a function for each element, as long as it returns true.
func each[T any](l []T, visit func(T) bool) {
	for _, x := range l {
		if !visit(x) {
			return
		}
	}
}
