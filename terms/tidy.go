package terms

import (
	"slices"

	"veilstone/api"
)

// Tidy returns the canonical form of a concept.
func Tidy(c api.Concept) (x api.Concept, e api.Errno) {
	if e := CheckConcept(c); e != api.OK {
		return api.Concept{}, e
	}
	return tidy(c)
}

// tidy returns the canonical form of a valid concept.
func tidy(c api.Concept) (api.Concept, api.Errno) {
	var parts []api.Concept
	for _, p := range c.Parts {
		x, e := tidy(p)
		if e != api.OK {
			return api.Concept{}, e
		}
		parts = append(parts, x)
	}
	switch c.Kind {
	case api.SomeC:
		if parts[0].Kind == api.BottomC {
			return parts[0], api.OK
		}
		c.Parts = parts
	case api.AndC:
		return conjunction(parts)
	}
	return c, api.OK
}

// ordered is a concept with its order.
type ordered api.Concept

func (c ordered) compare(d ordered) int { return Compare(api.Concept(c), api.Concept(d)) }

// conjunction returns the canonical form of a conjunction of canonical parts.
func conjunction(parts []api.Concept) (api.Concept, api.Errno) {
	var l []ordered
	for _, p := range parts {
		switch p.Kind {
		case api.BottomC:
			return p, api.OK
		case api.TopC:
		case api.AndC:
			for _, q := range p.Parts {
				l = append(l, ordered(q))
			}
		default:
			l = append(l, ordered(p))
		}
	}
	slices.SortFunc(l, ordered.compare)
	l = slices.CompactFunc(l, func(c, d ordered) bool { return c.compare(d) == 0 })
	switch {
	case len(l) == 0:
		return api.Concept{Kind: api.TopC}, api.OK
	case len(l) == 1:
		return api.Concept(l[0]), api.OK
	case len(l) > api.MaxParts:
		return api.Concept{}, api.ErrLimit
	}
	c := api.Concept{Kind: api.AndC}
	for _, p := range l {
		c.Parts = append(c.Parts, api.Concept(p))
	}
	return c, api.OK
}

// TidyAxiom returns the canonical form of an axiom.
func TidyAxiom(a api.Axiom) (x api.Axiom, e api.Errno) {
	if e := CheckAxiom(a); e != api.OK {
		return api.Axiom{}, e
	}
	row := axiomRows[a.Kind]
	if row.left {
		if a.Left, e = tidy(a.Left); e != api.OK {
			return api.Axiom{}, e
		}
	}
	if row.right {
		if a.Right, e = tidy(a.Right); e != api.OK {
			return api.Axiom{}, e
		}
	}
	if (a.Kind == api.EquivA || a.Kind == api.DisjointA) && Compare(a.Left, a.Right) > 0 {
		a.Left, a.Right = a.Right, a.Left
	}
	return a, api.OK
}
