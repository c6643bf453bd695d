package match

import (
	"slices"

	"veilstone/api"
	"veilstone/canon"
)

// Classes finds, for an assignment of a part, the class of each term: a function that returns its representative.
func Classes(p api.Part, nodes map[string]string) (of func(term string) string) {
	parent := map[string]string{}
	of = func(t string) string {
		for parent[t] != "" {
			t = parent[t]
		}
		return t
	}
	join := func(s, t string) bool {
		s, t = of(s), of(t)
		if s == t {
			return false
		}
		parent[max(s, t)] = min(s, t)
		return true
	}
	terms := Terms(p)
	for i, s := range terms {
		for _, t := range terms[:i] {
			if nodes[s] == nodes[t] && !canon.Nameless(nodes[s]) {
				join(s, t)
			}
		}
	}
	for changed := true; changed; {
		changed = false
		for _, a := range p.Atoms {
			for _, b := range p.Atoms {
				if a.Kind == api.RoleQ && b.Kind == api.RoleQ && of(a.Y) == of(b.Y) && canon.Nameless(nodes[a.Y]) {
					changed = join(a.X, b.X) || changed
				}
			}
		}
	}
	return of
}

// Genuine reports whether an assignment that satisfies a part is a genuine match.
func (x *Index) Genuine(p api.Part, nodes map[string]string) bool {
	of := Classes(p, nodes)
	nameless := map[string]bool{}
	for _, t := range Terms(p) {
		if nodes[t] != nodes[of(t)] {
			return false
		}
		nameless[of(t)] = canon.Nameless(nodes[t])
	}
	into := map[string][]api.Atom{} // the atoms that lead into each nameless class
	for _, a := range p.Atoms {
		if a.Kind == api.RoleQ && nameless[of(a.Y)] {
			into[of(a.Y)] = append(into[of(a.Y)], a)
		}
	}
	for class, atoms := range into {
		if !x.oneLink(nodes[atoms[0].X], nodes[class], atoms) {
			return false
		}
	}
	return !circular(into, of, nameless)
}

// oneLink reports whether a link that generates an element is one by the roles of all atoms.
func (x *Index) oneLink(from, to string, atoms []api.Atom) bool {
	return slices.ContainsFunc(x.direct, func(f api.Fact) bool {
		return f.A == from && f.B == to && !slices.ContainsFunc(atoms, func(a api.Atom) bool { return !x.Contained(f.R, a.Name) })
	})
}

// circular reports whether atoms lead in a circle through nameless classes. Each class is entered from one class alone.
func circular(into map[string][]api.Atom, of func(string) string, nameless map[string]bool) bool {
	for class := range into {
		at := class
		for range len(into) {
			atoms := into[at]
			if len(atoms) == 0 {
				break
			}
			at = of(atoms[0].X)
			if at == class {
				return true
			}
			if !nameless[at] {
				break
			}
		}
	}
	return false
}
