package answer

import (
	"iter"
	"slices"

	"veilstone/api"
	"veilstone/match"
	"veilstone/terms"
)

// All returns all answers of a query.
func All(b api.Base, q api.Query) (l []api.Told, e api.Errno) {
	effective, m, e := prepare(b, q)
	if e != api.OK {
		return nil, e
	}
	n, e := terms.Vocabulary(effective.Axioms)
	if e != api.OK {
		return nil, e
	}
	index := match.New(m)
	names := slices.DeleteFunc(n.Individuals, func(name string) bool { return name[0] == '_' })
	answers := func(part int) (told []api.Told) {
		p := q.Parts[part]
		for tuple := range tuples(index, p, q.Told, names) {
			if _, ok := find(index, instance(p, q.Told, tuple)); ok {
				told = append(told, api.Told{Part: part, Tuple: slices.Clone(tuple)})
			}
		}
		return told
	}
	for i := range q.Parts {
		l = collect(l, answers(i)...)
	}
	return l, api.OK
}

func collect(l []api.Told, more ...api.Told) []api.Told { return append(l, more...) }

// instance returns the part with individuals in place of told variables.
func instance(p api.Part, told, tuple []string) (x api.Part) {
	replaced := func(t string) string {
		if i := slices.Index(told, t); i >= 0 && i < len(tuple) {
			return tuple[i]
		}
		return t
	}
	for _, a := range p.Atoms {
		a.X, a.Y = replaced(a.X), replaced(a.Y)
		x.Atoms = append(x.Atoms, a)
	}
	return x
}

// tuples yields, in order, the tuples of individuals for which no atom is out of the question by itself. What is yielded is changed later.
func tuples(index *match.Index, p api.Part, told, names []string) iter.Seq[[]string] {
	return func(yield func([]string) bool) {
		var tuple []string
		var extend func() bool
		extend = func() bool {
			if len(tuple) == len(told) {
				return yield(tuple)
			}
			for _, name := range names {
				tuple = append(tuple, name)
				if possible(index, instance(p, told, tuple), name) && !extend() {
					return false
				}
				tuple = tuple[:len(tuple)-1]
			}
			return true
		}
		extend()
	}
}

// possible reports whether the atoms about an individual can be satisfied, each of them alone.
func possible(index *match.Index, p api.Part, name string) bool {
	for _, a := range p.Atoms {
		if a.X != name && a.Y != name {
			continue
		}
		nodes := map[string]string{}
		for _, t := range []string{a.X, a.Y} {
			if n, ok := match.Individual(t); ok && t != "" {
				nodes[t] = n
			}
		}
		some := false
		for range index.Extend(a, nodes) {
			some = true
			break
		}
		if !some {
			return false
		}
	}
	return true
}
