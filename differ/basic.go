package differ

import (
	"iter"
	"slices"

	"veilstone/api"
	"veilstone/entail"
	"veilstone/normal"
	"veilstone/roles"
	"veilstone/saturate"
	"veilstone/terms"
)

const (
	topAtom    = "*"
	bottomAtom = "!"
	// newAtom stands for a name that does not occur; no concept has this atom.
	newAtom = "<new>"
)

func isValid(n api.Names) bool {
	for k, l := range [][]string{n.Concepts, n.Roles, n.Features, n.Individuals} {
		individuals := k == 3
		for i, s := range l {
			if terms.CheckName(s) != api.OK || s[0] == '_' && !individuals || i > 0 && l[i-1] >= s {
				return false
			}
		}
	}
	return true
}

// count returns how many basic axioms are considered; it may be too low if they are far too many.
func count(n api.Names) int {
	const most = 1 << 17 // so that nothing overflows
	c, r, i := min(len(n.Concepts), most), min(len(n.Roles), most), min(len(n.Individuals), most)
	return (c+1)*(c+1) + r*r + i*c + r*i*i
}

func named(s string) api.Concept { return api.Concept{Kind: api.NamedC, Name: s} }

// basic enumerates the basic axioms of a vocabulary.
func basic(n api.Names) iter.Seq[api.Axiom] {
	return func(yield func(api.Axiom) bool) {
		_ = inclusions(n, yield) && roleInclusions(n, yield) && facts(n, yield)
	}
}

func inclusions(n api.Names, yield func(api.Axiom) bool) bool {
	left, right := []api.Concept{{Kind: api.TopC}}, []api.Concept{{Kind: api.BottomC}}
	for _, s := range n.Concepts {
		left, right = append(left, named(s)), append(right, named(s))
	}
	for i, c := range left {
		for k, d := range right {
			if (i == 0 || i != k) && !yield(api.Axiom{Kind: api.SubA, Left: c, Right: d}) {
				return false
			}
		}
	}
	return true
}

func roleInclusions(n api.Names, yield func(api.Axiom) bool) bool {
	for _, r := range n.Roles {
		for _, s := range n.Roles {
			if r != s && !yield(api.Axiom{Kind: api.RoleSubA, Roles: []string{r}, Role: s}) {
				return false
			}
		}
	}
	return true
}

func facts(n api.Names, yield func(api.Axiom) bool) bool {
	for _, i := range n.Individuals {
		for _, c := range n.Concepts {
			if !yield(api.Axiom{Kind: api.TypeA, A: i, Right: named(c)}) {
				return false
			}
		}
		for _, r := range n.Roles {
			for _, k := range n.Individuals {
				if !yield(api.Axiom{Kind: api.LinkA, A: i, Role: r, B: k}) {
					return false
				}
			}
		}
	}
	return true
}

// conclusions returns the basic axioms that follow from a valid base.
func conclusions(b api.Base, n api.Names) (l []api.Axiom, e api.Errno) {
	o, ok := newOracle(b, n)
	if !ok {
		return oneByOne(b, n)
	}
	for a := range basic(n) {
		if o.follows(a) {
			l = append(l, a)
		}
	}
	slices.SortFunc(l, terms.CompareAxiom)
	return l, api.OK
}

// oneByOne asks about each basic axiom by itself, in order.
func oneByOne(b api.Base, n api.Names) (l []api.Axiom, e api.Errno) {
	all := slices.SortedFunc(basic(n), terms.CompareAxiom)
	for _, a := range all {
		ok, e := entail.Entails(b, a)
		if e != api.OK {
			return nil, e
		}
		if ok {
			l = append(l, a)
		}
	}
	return l, api.OK
}

// oracle knows what follows about all names of a vocabulary.
type oracle struct {
	api.Closure
	known  map[api.Fact]bool
	isAtom map[string]bool
	above  map[string][]string // of roles
}

func individual(s string) string { return "{" + s + "}" }

// newOracle makes the closure of a base in which an atom stands for all names that do not occur in the base, about which the same follows; ok is false if it is too large.
func newOracle(b api.Base, n api.Names) (o *oracle, ok bool) {
	p, e := normal.Pieces(b.Axioms)
	if e != api.OK {
		return nil, false
	}
	atoms := map[string]bool{}
	for _, s := range normal.Atoms(p) {
		atoms[s] = true
	}
	isNew := func(s string) bool { return !atoms[s] }
	if slices.ContainsFunc(n.Concepts, isNew) || slices.ContainsFunc(n.Individuals, func(s string) bool { return isNew(individual(s)) }) {
		p = append(p, api.Piece{Kind: api.SubP, A: newAtom, C: topAtom, From: -1})
	}
	c, e := saturate.All(p, api.MaxBudget)
	if e != api.OK {
		return nil, false
	}
	o = &oracle{Closure: c, known: map[api.Fact]bool{}, isAtom: map[string]bool{}, above: map[string][]string{}}
	for _, f := range o.Facts {
		o.known[f] = true
	}
	for _, s := range o.Atoms {
		o.isAtom[s] = true
	}
	var about []api.Axiom
	for _, a := range b.Axioms {
		if a.Kind == api.RoleSubA {
			about = append(about, a)
		}
	}
	for _, r := range n.Roles {
		if o.above[r], e = roles.Above(about, r); e != api.OK {
			return nil, false
		}
	}
	return o, true
}

// follows reports whether a basic axiom follows.
func (o *oracle) follows(a api.Axiom) bool {
	switch a.Kind {
	case api.RoleSubA:
		return slices.Contains(o.above[a.Roles[0]], a.Role)
	case api.LinkA:
		return o.has(api.Fact{Kind: api.LinkF, A: individual(a.A), R: a.Role, B: individual(a.B)})
	case api.TypeA:
		return o.has(api.Fact{Kind: api.SubF, A: individual(a.A), B: a.Right.Name})
	}
	left, right := a.Left.Name, a.Right.Name
	if a.Left.Kind == api.TopC {
		left = topAtom
	}
	if a.Right.Kind == api.BottomC {
		right = bottomAtom
	}
	return o.has(api.Fact{Kind: api.SubF, A: left, B: right})
}

// has reports whether a fact is known, or everything about its atom.
func (o *oracle) has(f api.Fact) bool {
	if !o.isAtom[f.A] {
		if f.B == f.A {
			f.B = newAtom
		}
		f.A = newAtom
	}
	return o.known[f] || o.known[api.Fact{Kind: api.SubF, A: f.A, B: bottomAtom}]
}
