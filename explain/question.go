package explain

import (
	"slices"

	"veilstone/api"
	"veilstone/base"
	"veilstone/entail"
	"veilstone/hitting"
	"veilstone/module"
	"veilstone/normal"
	"veilstone/proof"
	"veilstone/smallest"
	"veilstone/terms"
)

// question asks why a tidy axiom follows from a valid base.
type question struct {
	base    api.Base
	axiom   api.Axiom
	matters []bool // the axioms that can be elements of explanations
	finder  *smallest.Finder
}

func newQuestion(b api.Base, a api.Axiom) (q *question, e api.Errno) {
	if e := base.Check(b); e != api.OK {
		return nil, e
	}
	x, e := terms.TidyAxiom(a)
	if e != api.OK {
		return nil, e
	}
	q = &question{base: b, axiom: x}
	q.finder = smallest.New(q.explains)
	return q, api.OK
}

// part returns the base of the axioms in a set.
func (q *question) part(set []int) (b api.Base) {
	for _, i := range set {
		b.Axioms = append(b.Axioms, q.base.Axioms[i])
	}
	return b
}

// aboutRoles reports whether the axiom follows from axioms about roles alone.
func (q *question) aboutRoles() bool { return isRoleAxiom(q.axiom) }

func isRoleAxiom(a api.Axiom) bool {
	return a.Kind == api.RoleSubA || a.Kind == api.ChainA || a.Kind == api.ReflexiveA
}

// restrict determines which axioms matter for the conclusion. Others are in no explanation.
func (q *question) restrict() api.Errno {
	if q.matters != nil {
		return api.OK
	}
	q.matters = make([]bool, len(q.base.Axioms))
	if q.aboutRoles() {
		for i, a := range q.base.Axioms {
			q.matters[i] = isRoleAxiom(a)
		}
		return api.OK
	}
	m, e := module.Of(q.base, q.axiom)
	if e == api.ErrLimit { // too many pieces; fewer axioms may have few enough
		for i := range q.matters {
			q.matters[i] = true
		}
		return api.OK
	}
	for _, a := range m.Axioms {
		at, _ := base.Find(q.base, a)
		q.matters[at] = true
	}
	return e
}

// mattering returns the elements of a set that matter.
func (q *question) mattering(set []int) (l []int) {
	for _, i := range set {
		if q.matters[i] {
			l = append(l, i)
		}
	}
	return l
}

// explains reports whether the axiom follows from a set of axioms, and which of them a proof uses.
func (q *question) explains(set []int) (ok bool, used []int, e api.Errno) {
	b := q.part(set)
	if q.aboutRoles() {
		ok, e = entail.Entails(b, q.axiom)
		return ok, set, e
	}
	p, e := normal.Pieces(b.Axioms)
	if e != api.OK {
		return false, nil, e
	}
	goal, facts, e := normal.Goal(q.axiom)
	if e != api.OK {
		return false, nil, e
	}
	p = slices.Concat(p, goal)
	for _, f := range facts {
		x, e := proof.Find(p, f, api.MaxBudget)
		if e == api.ErrUnproved {
			return false, nil, api.OK
		}
		if e != api.OK {
			return false, nil, e
		}
		l, e := proof.Axioms(p, x)
		if e != api.OK {
			return false, nil, e
		}
		for _, i := range l {
			used = append(used, set[i])
		}
	}
	return true, used, api.OK
}

// one returns the explanation that remains when axioms are removed from the last to the first.
func (q *question) one(out []int) (set []int, ok bool, e api.Errno) {
	var all []int
	for i := range q.base.Axioms {
		if _, left := slices.BinarySearch(out, i); !left {
			all = append(all, i)
		}
	}
	// The whole set is examined as it is: it may be too large where a part of it is not.
	ok, e = entail.Entails(q.part(all), q.axiom)
	if e != api.OK || !ok {
		return nil, false, e
	}
	if e := q.restrict(); e != api.OK {
		return nil, false, e
	}
	return q.finder.Shrink(q.mattering(all))
}

// all returns all explanations, in any order.
func (q *question) all() (sets [][]int, e api.Errno) {
	_, ok, e := q.one(nil)
	if e != api.OK || !ok {
		return nil, e
	}
	var all []int
	for i := range q.base.Axioms {
		all = append(all, i)
	}
	sets, few, e := q.finder.All(q.mattering(all), api.MaxSets)
	if e != api.OK {
		return nil, e
	}
	if !few {
		return nil, api.ErrLimit
	}
	return sets, api.OK
}

// search goes on with a search, for at most some steps.
func (q *question) search(s api.Search, steps int) (x api.Search, e api.Errno) {
	ask := func(s api.Search) (api.Search, api.Errno) {
		out, _ := hitting.Next(s)
		set, ok, e := q.one(out)
		if e != api.OK {
			return api.Search{}, e
		}
		return hitting.Give(s, set, !ok)
	}
	return repeat(s, ask, steps, func(s api.Search) bool { return s.Done })
}

// repeat performs steps until there are enough of them, or the search is done.
func repeat[S any](s S, step func(S) (S, api.Errno), steps int, done func(S) bool) (x S, e api.Errno) {
	for n := 0; n < steps && !done(s); n++ {
		if s, e = step(s); e != api.OK {
			var zero S
			return zero, e
		}
	}
	return s, api.OK
}
