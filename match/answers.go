package match

import (
	"iter"
	"slices"

	"veilstone/api"
)

// Find returns a genuine match of a part.
func (x *Index) Find(p api.Part) (found api.Match, ok bool) {
	for nodes := range x.Assignments(p) {
		if !x.Genuine(p, nodes) {
			continue
		}
		for _, t := range Terms(p) {
			found.Binds = append(found.Binds, api.Bind{Term: t, Node: nodes[t]})
		}
		return found, true
	}
	return api.Match{}, false
}

// Tellable returns the names of individuals that can be values of told variables.
func Tellable(names []string) []string {
	return slices.DeleteFunc(slices.Clone(names), func(name string) bool { return name[0] == '_' })
}

// Answers yields, in order, the tuples of individuals for whose instance a part has a genuine match. What is yielded is changed later.
func (x *Index) Answers(p api.Part, told, names []string) iter.Seq[[]string] {
	return func(yield func([]string) bool) {
		for tuple := range x.tuples(p, told, names) {
			if _, ok := x.Find(instance(p, told, tuple)); ok && !yield(tuple) {
				return
			}
		}
	}
}

// instance returns the part with individuals in place of told variables.
func instance(p api.Part, told, tuple []string) (y api.Part) {
	replaced := func(t string) string {
		if i := slices.Index(told, t); i >= 0 && i < len(tuple) {
			return tuple[i]
		}
		return t
	}
	for _, a := range p.Atoms {
		a.X, a.Y = replaced(a.X), replaced(a.Y)
		y.Atoms = append(y.Atoms, a)
	}
	return y
}

// tuples yields, in order, the tuples of individuals for which no atom is out of the question by itself. What is yielded is changed later.
func (x *Index) tuples(p api.Part, told, names []string) iter.Seq[[]string] {
	return func(yield func([]string) bool) {
		var tuple []string
		var extend func() bool
		extend = func() bool {
			if len(tuple) == len(told) {
				return yield(tuple)
			}
			for _, name := range names {
				tuple = append(tuple, name)
				if x.possible(instance(p, told, tuple), name) && !extend() {
					return false
				}
				tuple = tuple[:len(tuple)-1]
			}
			return true
		}
		extend()
	}
}

// possible reports whether the atoms about an individual can be satisfied, each of them alone.
func (x *Index) possible(p api.Part, name string) bool {
	for _, a := range p.Atoms {
		if a.X != name && a.Y != name {
			continue
		}
		nodes := map[string]string{}
		for _, t := range []string{a.X, a.Y} {
			if n, ok := Individual(t); ok && t != "" {
				nodes[t] = n
			}
		}
		some := false
		for range x.Extend(a, nodes) {
			some = true
			break
		}
		if !some {
			return false
		}
	}
	return true
}
