package terms

import (
	"cmp"
	"slices"
	"strings"

	"veilstone/api"
)

// sized is a concept with the sizes of all its parts, so that none of them is measured again at each level.
type sized struct {
	c     api.Concept
	size  int
	parts []sized
}

func measure(c api.Concept) sized {
	s := sized{c: c, size: 1}
	for _, p := range c.Parts {
		x := measure(p)
		s.size += x.size
		s.parts = append(s.parts, x)
	}
	return s
}

func compareSized(a, b sized) int {
	if n := cmp.Or(cmp.Compare(a.size, b.size), cmp.Compare(a.c.Kind, b.c.Kind)); n != 0 {
		return n
	}
	n := cmp.Or(strings.Compare(a.c.Name, b.c.Name), cmp.Compare(a.c.Lo, b.c.Lo), cmp.Compare(a.c.Hi, b.c.Hi))
	if n != 0 {
		return n
	}
	return slices.CompareFunc(a.parts, b.parts, compareSized)
}

// Compare orders concepts.
func Compare(a, b api.Concept) (n int) { return compareSized(measure(a), measure(b)) }

// CompareAxiom orders axioms; it ignores whether they are open.
func CompareAxiom(a, b api.Axiom) (n int) {
	aLeft, aRight, bLeft, bRight := measure(a.Left), measure(a.Right), measure(b.Left), measure(b.Right)
	n = cmp.Or(
		cmp.Compare(weight(a, aLeft, aRight), weight(b, bLeft, bRight)),
		cmp.Compare(a.Kind, b.Kind))
	if n != 0 {
		return n
	}
	if n = compareSized(aLeft, bLeft); n != 0 {
		return n
	}
	if n = compareSized(aRight, bRight); n != 0 {
		return n
	}
	return cmp.Or(slices.Compare(a.Roles, b.Roles), strings.Compare(a.Role, b.Role),
		strings.Compare(a.A, b.A), strings.Compare(a.B, b.B))
}

// weight returns the weight of an axiom whose concepts are measured.
func weight(a api.Axiom, left, right sized) (n int) {
	for _, s := range []sized{left, right} {
		if s.c.Kind != 0 {
			n += s.size
		}
	}
	for _, s := range []string{a.Role, a.A, a.B} {
		if s != "" {
			n++
		}
	}
	return n + len(a.Roles)
}
