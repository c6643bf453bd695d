package mapping

import (
	"iter"
	"slices"

	"veilstone/api"
	"veilstone/base"
	"veilstone/differ"
	"veilstone/printer"
	"veilstone/terms"
)

// join returns the prefixed other base and the joined base, and the common errors.
func join(own, other api.Base, maps []api.Axiom) (foreign, joined api.Base, e api.Errno) {
	if e := checkBases(own, other); e != api.OK {
		return api.Base{}, api.Base{}, e
	}
	if e := checkMappings(other, maps); e != api.OK {
		return api.Base{}, api.Base{}, e
	}
	p, _ := prefixOf(maps)
	if foreign, e = prefixed(other, p); e != api.OK {
		return api.Base{}, api.Base{}, e
	}
	joined, e = base.New(slices.Concat(own.Axioms, foreign.Axioms, maps))
	return foreign, joined, e
}

// Join returns the base of both bases and the mappings.
func Join(own, other api.Base, maps []api.Axiom) (x api.Base, e api.Errno) {
	_, x, e = join(own, other, maps)
	return x, e
}

// Gains returns the subsumptions that mappings win within either vocabulary.
func Gains(own, other api.Base, maps []api.Axiom) (l []api.Axiom, e api.Errno) {
	foreign, joined, e := join(own, other, maps)
	if e != api.OK {
		return nil, e
	}
	won := map[string]api.Axiom{}
	for _, side := range []api.Base{own, foreign} {
		n, e := terms.Vocabulary(side.Axioms)
		if e != api.OK {
			return nil, e
		}
		before, e := subsumptions(side, n)
		if e != api.OK {
			return nil, e
		}
		after, e := subsumptions(joined, n)
		if e != api.OK {
			return nil, e
		}
		for text, a := range after {
			if _, ok := before[text]; !ok {
				won[text] = a
			}
		}
	}
	for _, a := range won {
		l = append(l, a)
	}
	slices.SortFunc(l, terms.CompareAxiom)
	return l, api.OK
}

// subsumptions returns the subsumptions of a base for a vocabulary, by their texts.
func subsumptions(b api.Base, n api.Names) (m map[string]api.Axiom, e api.Errno) {
	l, e := differ.Conclusions(b, n)
	if e != api.OK {
		return nil, e
	}
	m = map[string]api.Axiom{}
	for _, a := range l {
		if a.Kind != api.SubA && a.Kind != api.RoleSubA {
			continue
		}
		text, e := printer.Axiom(a)
		if e != api.OK {
			return nil, e
		}
		m[text] = a
	}
	return m, api.OK
}

// sets enumerates the sets of the numbers below n: by their sizes, and then lexicographically.
func sets(n int) iter.Seq[[]int] {
	return func(yield func([]int) bool) {
		var extend func(set []int, from, size int) bool
		extend = func(set []int, from, size int) bool {
			if len(set) == size {
				return yield(set)
			}
			for i := from; i < n; i++ {
				if !extend(append(set, i), i+1, size) {
					return false
				}
			}
			return true
		}
		for size := range n + 1 {
			if !extend(make([]int, 0, n), 0, size) {
				return
			}
		}
	}
}

// Fewest returns the first set of mappings without which nothing is won.
func Fewest(own, other api.Base, maps []api.Axiom) (out []int, e api.Errno) {
	if _, _, e := join(own, other, maps); e != api.OK {
		return nil, e
	}
	if len(maps) > maxFewest {
		return nil, api.ErrLimit
	}
	for set := range sets(len(maps)) {
		if len(set) == len(maps) {
			return slices.Clone(set), api.OK
		}
		var rest []api.Axiom
		for i, a := range maps {
			if !slices.Contains(set, i) {
				rest = append(rest, a)
			}
		}
		l, e := Gains(own, other, rest)
		if e != api.OK {
			return nil, e
		}
		if len(l) == 0 {
			return slices.Clone(set), api.OK
		}
	}
	return nil, api.OK
}

// Accept returns the joined base of an alignment that wins nothing.
func Accept(own, other api.Base, a api.Alignment) (x api.Base, e api.Errno) {
	if e := Check(own, other, a); e != api.OK {
		return api.Base{}, e
	}
	l, e := Gains(own, other, a.Axioms)
	if e != api.OK {
		return api.Base{}, e
	}
	if len(l) > 0 {
		return api.Base{}, api.ErrGain
	}
	return Join(own, other, a.Axioms)
}
