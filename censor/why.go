package censor

import (
	"cmp"
	"slices"

	"veilstone/api"
	"veilstone/canon"
	"veilstone/freeze"
	"veilstone/match"
	"veilstone/reason"
	"veilstone/smallest"
)

// Why returns the explanations of a part from what a reader knows.
func Why(open api.Base, l api.Ledger, x api.Part) (w []api.Why, e api.Errno) {
	k, e := fromOpen(open, l)
	if e != api.OK {
		return nil, e
	}
	if e := k.checkPart(x); e != api.OK {
		return nil, e
	}
	known, e := k.holds(x)
	if e != api.OK {
		return nil, e
	}
	if len(open.Axioms)+len(l.Entries) > api.MaxAxioms {
		return nil, api.ErrLimit
	}
	if !known {
		return nil, api.OK
	}
	s := newSearch(k, x)
	sets, few, e := smallest.New(s.sufficient).All(s.all(), api.MaxSets)
	if e != api.OK {
		return nil, e
	}
	if !few {
		return nil, api.ErrLimit
	}
	slices.SortFunc(sets, func(a, b []int) int { return cmp.Or(cmp.Compare(len(a), len(b)), slices.Compare(a, b)) })
	for _, set := range sets {
		w = append(w, s.why(set))
	}
	return w, api.OK
}

// search looks for the smallest sets of axioms and entries from which a part follows. Its elements are the axioms that are not about roles, and behind them the entries.
type search struct {
	*knowledge
	part   api.Part
	axioms []int // the indices of the axioms that are elements
}

func newSearch(k *knowledge, x api.Part) *search {
	s := &search{knowledge: k, part: x}
	for i, a := range k.open.Axioms {
		if !reason.IsRoleAxiom(a) {
			s.axioms = append(s.axioms, i)
		}
	}
	return s
}

func (s *search) all() (l []int) {
	for i := range len(s.axioms) + len(s.Entries) {
		l = append(l, i)
	}
	return l
}

// divide returns, for each open axiom, whether it is in a set, and the entries in the set.
func (s *search) divide(set []int) (in []bool, entries []api.Entry) {
	in = make([]bool, len(s.open.Axioms))
	for _, n := range set {
		if n < len(s.axioms) {
			in[s.axioms[n]] = true
		} else {
			entries = append(entries, s.Entries[n-len(s.axioms)])
		}
	}
	return in, entries
}

// sufficient is the oracle: whether the part follows from a set and the axioms about roles.
func (s *search) sufficient(set []int) (ok bool, part []int, e api.Errno) {
	in, entries := s.divide(set)
	var open api.Base
	for i, a := range s.open.Axioms {
		if in[i] || reason.IsRoleAxiom(a) {
			open.Axioms = append(open.Axioms, a)
		}
	}
	b, e := freeze.Base(open, entries)
	if e != api.OK {
		return false, nil, e
	}
	m, e := canon.Build(b.Axioms)
	if e != api.OK {
		return false, nil, e
	}
	_, ok = match.New(m).Find(s.part)
	return ok, set, api.OK
}

// why returns a set as an explanation.
func (s *search) why(set []int) (w api.Why) {
	in, entries := s.divide(set)
	for i, a := range s.open.Axioms {
		if in[i] {
			w.Axioms = append(w.Axioms, a)
		}
	}
	for _, x := range entries {
		w.Entries = append(w.Entries, x.No)
	}
	return w
}
