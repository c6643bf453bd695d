package repair

import (
	"slices"

	"veilstone/api"
	"veilstone/base"
	"veilstone/entail"
	"veilstone/hitting"
	"veilstone/reason"
	"veilstone/smallest"
)

// clashes returns the clashes of a base, in order, and the common errors.
func clashes(b api.Base, keep []int, most int) (sets [][]int, e api.Errno) {
	if e := base.Check(b); e != api.OK {
		return nil, e
	}
	if !isSet(keep, b) || !isMost(most) {
		return nil, api.ErrArg
	}
	ok, e := entail.Consistent(b)
	if e != api.OK || ok {
		return nil, e
	}
	if sets, ok := reason.TraceClashes(b, keep); ok {
		return few(sets)
	}
	goals, e := contradictions(b)
	if e != api.OK {
		return nil, e
	}
	return minimal(b, goals, keep)
}

// causes returns the causes of a tidy axiom that follows from a valid base, in order.
func causes(b api.Base, a api.Axiom, keep []int) (sets [][]int, e api.Errno) {
	if sets, ok := reason.TraceAxiom(b, a, keep); ok {
		return few(sets)
	}
	return minimal(b, []api.Axiom{a}, keep)
}

// few returns sets in order, of which there must be at most MaxSets.
func few(sets [][]int) ([][]int, api.Errno) {
	if len(sets) > api.MaxSets {
		return nil, api.ErrLimit
	}
	return hitting.Minimal(sets)
}

// contradictions returns the axioms that say that everything, or an individual, is in nothing, as far as they follow.
func contradictions(b api.Base) (goals []api.Axiom, e api.Errno) {
	bottom := api.Concept{Kind: api.BottomC}
	all := api.Axiom{Kind: api.SubA, Left: api.Concept{Kind: api.TopC}, Right: bottom}
	ok, e := entail.Entails(b, all)
	if e != api.OK {
		return nil, e
	}
	if ok {
		goals = append(goals, all)
	}
	individuals, e := entail.Instances(b, bottom)
	for _, name := range individuals {
		goals = append(goals, api.Axiom{Kind: api.TypeA, A: name, Right: bottom})
	}
	return goals, e
}

// elements is a set of indices of axioms.
type elements [api.MaxAxioms]bool

func elementsOf(set []int) (x elements) {
	for _, n := range set {
		x[n] = true
	}
	return x
}

// minimal returns, in order, the minimal sets of axioms from which, together with those that are kept, one of some goals follows. There must be at most MaxSets.
func minimal(b api.Base, goals []api.Axiom, keep []int) (sets [][]int, e api.Errno) {
	var tests []smallest.Test
	all := true
	found := map[elements]bool{}
	for _, g := range goals {
		test := sufficient(b, g, keep)
		tests = append(tests, test)
		// Goals by themselves have fewer combinations to examine than all of them together.
		l, ok, e := search(b, test, keep)
		if e != api.OK {
			return nil, e
		}
		all = all && ok
		for _, s := range l {
			if x := elementsOf(s); !found[x] {
				found[x] = true
				sets = append(sets, s)
			}
		}
	}
	if !all && len(goals) > 1 {
		sets, all, e = search(b, either(tests), keep)
		if e != api.OK {
			return nil, e
		}
	}
	sets, e = hitting.Minimal(sets)
	if e != api.OK {
		return nil, e
	}
	if !all {
		return nil, api.ErrLimit
	}
	return few(sets)
}

// search returns the minimal sets that pass a test; all is false if there are more than MaxSets.
func search(b api.Base, test smallest.Test, keep []int) (sets [][]int, all bool, e api.Errno) {
	return smallest.New(test).All(reason.Rest(b, keep), api.MaxSets)
}

// sufficient returns the test whether a goal follows from a set and what is kept.
func sufficient(b api.Base, goal api.Axiom, keep []int) smallest.Test {
	q := reason.New(b, goal)
	return func(set []int) (bool, []int, api.Errno) {
		whole := slices.Concat(keep, set)
		slices.Sort(whole)
		ok, used, e := q.Uses(q.Mattering(whole))
		used = slices.DeleteFunc(used, func(n int) bool {
			_, kept := slices.BinarySearch(keep, n)
			return kept
		})
		return ok, used, e
	}
}

// either returns the test that is passed by what passes one of several tests.
func either(tests []smallest.Test) smallest.Test {
	return func(set []int) (bool, []int, api.Errno) {
		for _, test := range tests {
			if ok, used, e := test(set); ok || e != api.OK {
				return ok, used, e
			}
		}
		return false, nil, api.OK
	}
}
