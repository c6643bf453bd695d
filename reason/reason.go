// Package reason decides which axioms of a base are sufficient for a conclusion, and which of them a proof of it uses.
package reason

import (
	"slices"

	"veilstone/api"
	"veilstone/entail"
	"veilstone/module"
	"veilstone/normal"
	"veilstone/proof"
	"veilstone/terms"
)

// Question asks why an axiom follows from a base.
type Question struct {
	base    api.Base
	axiom   api.Axiom
	matters []bool
}

// New returns the question for a valid base and a tidy axiom, for which entail.Entails returns no error.
func New(b api.Base, a api.Axiom) *Question {
	q := &Question{base: b, axiom: a, matters: make([]bool, len(b.Axioms))}
	if IsRoleAxiom(a) {
		for i, x := range b.Axioms {
			q.matters[i] = IsRoleAxiom(x)
		}
		return q
	}
	m, e := module.Of(b, a)
	if e != api.OK {
		m = b
	}
	k := 0 // the axioms of the module are in the same order
	for i, x := range b.Axioms {
		if k < len(m.Axioms) && terms.CompareAxiom(x, m.Axioms[k]) == 0 {
			q.matters[i] = true
			k++
		}
	}
	return q
}

// IsRoleAxiom reports whether an axiom is one about roles.
func IsRoleAxiom(a api.Axiom) bool {
	return a.Kind == api.RoleSubA || a.Kind == api.ChainA || a.Kind == api.ReflexiveA
}

// Part returns the base of the axioms with some indices.
func Part(b api.Base, set []int) (x api.Base) {
	for _, i := range set {
		x.Axioms = append(x.Axioms, b.Axioms[i])
	}
	return x
}

// Rest returns the indices of the axioms of a base that are not in a set.
func Rest(b api.Base, out []int) (l []int) {
	for i := range b.Axioms {
		if _, left := slices.BinarySearch(out, i); !left {
			l = append(l, i)
		}
	}
	return l
}

// Mattering returns the elements of a set that can be used in a proof.
func (q *Question) Mattering(set []int) (l []int) {
	for _, i := range set {
		if q.matters[i] {
			l = append(l, i)
		}
	}
	return l
}

// Uses reports whether the axiom follows from the axioms in a set, and which of them a proof uses.
func (q *Question) Uses(set []int) (ok bool, used []int, e api.Errno) {
	b := Part(q.base, set)
	if IsRoleAxiom(q.axiom) {
		ok, e = entail.Entails(b, q.axiom)
		return ok, set, e
	}
	p, e := normal.Pieces(b.Axioms)
	if e != api.OK {
		return false, nil, e
	}
	goal, facts, e := normal.Goal(q.axiom)
	if e != api.OK {
		return false, nil, e
	}
	p = slices.Concat(p, goal)
	for _, f := range facts {
		x, e := proof.Find(p, f, api.MaxBudget)
		if e == api.ErrUnproved {
			return false, nil, api.OK
		}
		if e != api.OK {
			return false, nil, e
		}
		l, e := proof.Axioms(p, x)
		if e != api.OK {
			return false, nil, e
		}
		for _, i := range l {
			used = append(used, set[i])
		}
	}
	slices.Sort(used)
	return true, slices.Compact(used), api.OK
}
